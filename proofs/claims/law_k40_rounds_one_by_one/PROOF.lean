import PyProof.Rows.All
import OpenK.KLine
import OpenK.KWalk
import OpenK.KRaise
import Open.Line
import Wide.Line
import KE.IntBitsLaws
import KE.KIsAll
import KE.KTryMore
import KE.KNest
import KE.KLam
import Wide.FinOn
import Lean
import PyProof.EqAt
import PyProof.EqKinds
import PyProof.TupleCall
import PyProof.ZipIter
import PyProof.Rows.ZipGen
import PyProof.EnumMake
import PyProof.EnumFor
import PyProof.EnumStmt
import KE.KDictOf
import PyProof.AttrMissHeap
import PyProof.NeKinds
import KE.KItem
import KE.KDictSum
import KE.KSortTup
import KE.KEqDict
import KE.KRevSl
import KE.KTabExpr
import KE.KPairComp
import PyProof.DictItems
import KE.KDictList
import PyProof.ListRange
import PySem.Challenge.RW_askpaper_k40_rounds_one_by_one
local macro_rules | `(tactic| symm) => `(tactic| decide +kernel)
set_option Elab.async false
set_option linter.all false
set_option maxRecDepth 100000
namespace PySem.W.Fast
def tw10226012128227371678 := ()
def tw10274072039653814724 := ()
def tw10350215484662139179 := ()
def tw10433240004697599797 := ()
def tw10460632307777975865 := ()
def tw10618617322940240141 := ()
def tw10795971709137874642 := ()
def tw10840328159700329553 := ()
def tw11026217374451186864 := ()
def tw1104028409550318925 := ()
def tw11063512821606591957 := ()
def tw11098876297552476395 := ()
def tw1110534638001303148 := ()
def tw11106776423866190392 := ()
def tw11139113516945665316 := ()
def tw11140796979966773474 := ()
def tw1122311650705032363 := ()
def tw11377484745586878807 := ()
def tw11522597711253738796 := ()
def tw11570744749744172455 := ()
def tw11581741289337966864 := ()
def tw11595198983249261254 := ()
def tw1160621681088924875 := ()
def tw11622404394558213096 := ()
def tw1165617791470240246 := ()
def tw11701135388672467255 := ()
def tw11736323061767574194 := ()
def tw11744829332366213718 := ()
def tw11940165492101871475 := ()
def tw11950482451973574382 := ()
def tw1196396296921990454 := ()
def tw12046143635326248756 := ()
def tw12068110380402281443 := ()
def tw12086686252853651495 := ()
def tw12093103711463318254 := ()
def tw12096460478143495168 := ()
def tw12124151079066767578 := ()
def tw12195490843449065217 := ()
def tw12256779758145388025 := ()
def tw12367242514002947908 := ()
def tw12427906128093051841 := ()
def tw12473497400052015676 := ()
def tw12488361344490257549 := ()
def tw12539674881334843661 := ()
def tw12565629957605785598 := ()
def tw1259681303266355639 := ()
def tw12769851859934288321 := ()
def tw12826008528032372875 := ()
def tw13057005798988770808 := ()
def tw1307501151843886069 := ()
def tw1326760731342121673 := ()
def tw13376333005190030427 := ()
def tw13389775161404877553 := ()
def tw13580666703175868108 := ()
def tw13598648773398292508 := ()
def tw13610786120898464082 := ()
def tw1374061662880827882 := ()
def tw13817682388908642226 := ()
def tw13841503651399295920 := ()
def tw13901588143551474634 := ()
def tw13907027959650665745 := ()
def tw14000216761821600763 := ()
def tw14038838111028593782 := ()
def tw14068490140564421567 := ()
def tw14198755683456534424 := ()
def tw14380843327373377057 := ()
def tw1444135381471742277 := ()
def tw14528548402942897241 := ()
def tw14537222699105135737 := ()
def tw14591894433025320504 := ()
def tw14644482509291704610 := ()
def tw14695869280382516118 := ()
def tw1472428287529871125 := ()
def tw14798118040669106476 := ()
def tw14931992762602778391 := ()
def tw14971531835693226383 := ()
def tw15102965417079150176 := ()
def tw15146151511507820147 := ()
def tw15152072971648592798 := ()
def tw15247359346190864673 := ()
def tw15299013127649592097 := ()
def tw15422549721468137713 := ()
def tw15800206629723591513 := ()
def tw15865525610959812142 := ()
def tw15866301281854878724 := ()
def tw15881336247985516474 := ()
def tw15919759152905254470 := ()
def tw16085793739325827327 := ()
def tw16147436562689503834 := ()
def tw16166692144374020666 := ()
def tw16227094525884067930 := ()
def tw16264707456671813780 := ()
def tw16285352460321455660 := ()
def tw1629036978906505914 := ()
def tw16462284210361508624 := ()
def tw16496760955501154995 := ()
def tw16699651479366566035 := ()
def tw16732831724544772092 := ()
def tw16778037889967523550 := ()
def tw1678343351010129356 := ()
def tw16848509831438536009 := ()
def tw16897934838300425482 := ()
def tw16905492637651627293 := ()
def tw16986959277664789461 := ()
def tw17002660214944646272 := ()
def tw17026849905712502066 := ()
def tw17111178185339346689 := ()
def tw17126818111240941999 := ()
def tw1713239675201664285 := ()
def tw17217185416871991901 := ()
def tw17465431814355278165 := ()
def tw17501992671011205459 := ()
def tw17523653878653937837 := ()
def tw1754232481906357591 := ()
def tw17561040273870649691 := ()
def tw17587489701494224008 := ()
def tw1771270452892150298 := ()
def tw1774110173911283919 := ()
def tw177506173416756074 := ()
def tw1775109130757949727 := ()
def tw17760323540286761485 := ()
def tw1783097933536965637 := ()
def tw17949732106425187626 := ()
def tw1797641380440007859 := ()
def tw17986971761679678624 := ()
def tw18042934990668592445 := ()
def tw18049089480937577134 := ()
def tw18051993707180899938 := ()
def tw18083822012929148326 := ()
def tw18254568029197669985 := ()
def tw18274547270144744415 := ()
def tw18330277441642024421 := ()
def tw18421948309541408944 := ()
def tw1887665141530251143 := ()
def tw1956153361617436826 := ()
def tw207848416873017046 := ()
def tw2219803750294081196 := ()
def tw2321896345534139308 := ()
def tw2356666824866236515 := ()
def tw236750770499005475 := ()
def tw2412483395176409816 := ()
def tw2512045723254007250 := ()
def tw2597258383098282019 := ()
def tw2601791605806389144 := ()
def tw2713054189947943708 := ()
def tw2803623128962345901 := ()
def tw287413773422260700 := ()
def tw2964308414465541381 := ()
def tw2966439268580963168 := ()
def tw2984211498851539765 := ()
def tw3087275659920243143 := ()
def tw3109837978113408017 := ()
def tw3194809237303080613 := ()
def tw3250564916354084643 := ()
def tw327745176242286736 := ()
def tw3402267915693352797 := ()
def tw3426368294404593605 := ()
def tw3494212813030743747 := ()
def tw3526805900286301358 := ()
def tw3584671761671089885 := ()
def tw3611096474437192859 := ()
def tw3616142716992300500 := ()
def tw3666938722377044502 := ()
def tw4023774641828921887 := ()
def tw4071726529168823082 := ()
def tw4079317310586808657 := ()
def tw4126577122920216795 := ()
def tw4176501565845024431 := ()
def tw426447804838719319 := ()
def tw4296155600983390201 := ()
def tw4298255430308802783 := ()
def tw4450168995813829814 := ()
def tw4494713270184915701 := ()
def tw4628911045545844330 := ()
def tw4656452288552349885 := ()
def tw4736804374809904549 := ()
def tw475107895037645905 := ()
def tw4840224849054763469 := ()
def tw4862231921452552389 := ()
def tw4917403769887616684 := ()
def tw49852694052747028 := ()
def tw5035496199585666197 := ()
def tw5145557792822968199 := ()
def tw5323384511994821161 := ()
def tw5346098234636973415 := ()
def tw5411458010349699701 := ()
def tw5414343524528648047 := ()
def tw5501120270896062623 := ()
def tw5538625570032448354 := ()
def tw5685491206108092376 := ()
def tw5752853634067088194 := ()
def tw5787203675093379625 := ()
def tw5839674124627478085 := ()
def tw5889880175209764253 := ()
def tw5951753482717229809 := ()
def tw6033539384312838893 := ()
def tw611933202505862449 := ()
def tw629330700313213313 := ()
def tw6358745460445757004 := ()
def tw6394521216207067436 := ()
def tw6526785682737398509 := ()
def tw6548806063607644226 := ()
def tw658883876651263235 := ()
def tw6648024494551426683 := ()
def tw6844381223046792877 := ()
def tw6935201532889443505 := ()
def tw709384128731735565 := ()
def tw715367801774914962 := ()
def tw7291796760018655996 := ()
def tw7325963095554984139 := ()
def tw7391234958299665959 := ()
def tw7554367411215625219 := ()
def tw7592504449620130559 := ()
def tw7633093961891443763 := ()
def tw7680815185886464181 := ()
def tw7724837145177454620 := ()
def tw7731880221781805714 := ()
def tw7800683299495374652 := ()
def tw7832332268636487681 := ()
def tw7885455596475877142 := ()
def tw8095708472723201524 := ()
def tw812406049328678040 := ()
def tw8193303846609471182 := ()
def tw8201847852066042998 := ()
def tw8227858741548344738 := ()
def tw8235923173196304443 := ()
def tw8265245848882650789 := ()
def tw8404568806493608877 := ()
def tw8537562614543627387 := ()
def tw8549479207224239423 := ()
def tw8636162328413798353 := ()
def tw8648954333085808674 := ()
def tw8690719792918963291 := ()
def tw8699552231473328260 := ()
def tw8734530475189247427 := ()
def tw8743204318456544557 := ()
def tw8823329036715476395 := ()
def tw883770376656326040 := ()
def tw8964196491855252192 := ()
def tw9022542206375176581 := ()
def tw9244586015440772247 := ()
def tw9516454516835153846 := ()
def tw9526088246599514410 := ()
def tw9557275337524258731 := ()
def tw9571025399736985698 := ()
def tw9577090155128831896 := ()
def tw9680636039946870621 := ()
def tw9804160216878483036 := ()
def tw9893546792011952572 := ()
def tw9916408272282339212 := ()
def tw9951808672850286433 := ()
end PySem.W.Fast
section
namespace Hk
open PySem PySem.W
theorem chs {α β : Type} {f : β → α} {l : List β} {γ : Type} {g : γ → α} {l2 : List γ} {n m k : Nat} (h1 : ((l.drop n).take m).map f = ((l2.drop n).take m).map g) (hk : n + m = k) (h2 : (l.drop k).map f = (l2.drop k).map g) : (l.drop n).map f = (l2.drop n).map g := by
  subst hk
  rw [← List.take_append_drop m (l.drop n), ← List.take_append_drop m (l2.drop n), List.map_append, List.map_append, h1, List.drop_drop, List.drop_drop, h2]
theorem ch {K : Params → Frag} {as : List Addr} (e : ∀ P, as = (K P).map (·.1)) (w : World) (s : Shared) (x : ((((((as.drop 0).take 64).map s.heap.get?, ((as.drop 64).take 64).map s.heap.get?), (((as.drop 128).take 64).map s.heap.get?, ((as.drop 192).take 64).map s.heap.get?)), ((((as.drop 256).take 64).map s.heap.get?, ((as.drop 320).take 64).map s.heap.get?), (((as.drop 384).take 64).map s.heap.get?, ((as.drop 448).take 64).map s.heap.get?))), (((((as.drop 512).take 64).map s.heap.get?, ((as.drop 576).take 64).map s.heap.get?), (((as.drop 640).take 64).map s.heap.get?, ((as.drop 704).take 64).map s.heap.get?)), ((((as.drop 768).take 64).map s.heap.get?, ((as.drop 832).take 64).map s.heap.get?), (((as.drop 896).take 64).map s.heap.get?, (as.drop 960).map s.heap.get?)))) = (((((((K w.params).drop 0).take 64).map (fun p => some p.2), (((K w.params).drop 64).take 64).map (fun p => some p.2)), ((((K w.params).drop 128).take 64).map (fun p => some p.2), (((K w.params).drop 192).take 64).map (fun p => some p.2))), (((((K w.params).drop 256).take 64).map (fun p => some p.2), (((K w.params).drop 320).take 64).map (fun p => some p.2)), ((((K w.params).drop 384).take 64).map (fun p => some p.2), (((K w.params).drop 448).take 64).map (fun p => some p.2)))), ((((((K w.params).drop 512).take 64).map (fun p => some p.2), (((K w.params).drop 576).take 64).map (fun p => some p.2)), ((((K w.params).drop 640).take 64).map (fun p => some p.2), (((K w.params).drop 704).take 64).map (fun p => some p.2))), (((((K w.params).drop 768).take 64).map (fun p => some p.2), (((K w.params).drop 832).take 64).map (fun p => some p.2)), ((((K w.params).drop 896).take 64).map (fun p => some p.2), ((K w.params).drop 960).map (fun p => some p.2)))))) : InK K w s.heap := by
  simp only [Prod.mk.injEq] at x
  obtain ⟨⟨⟨⟨x0, x1⟩, ⟨x2, x3⟩⟩, ⟨⟨x4, x5⟩, ⟨x6, x7⟩⟩⟩, ⟨⟨⟨x8, x9⟩, ⟨x10, x11⟩⟩, ⟨⟨x12, x13⟩, ⟨x14, x15⟩⟩⟩⟩ := x
  have y15 := x15
  have y14 := chs x14 (by decide) y15
  have y13 := chs x13 (by decide) y14
  have y12 := chs x12 (by decide) y13
  have y11 := chs x11 (by decide) y12
  have y10 := chs x10 (by decide) y11
  have y9 := chs x9 (by decide) y10
  have y8 := chs x8 (by decide) y9
  have y7 := chs x7 (by decide) y8
  have y6 := chs x6 (by decide) y7
  have y5 := chs x5 (by decide) y6
  have y4 := chs x4 (by decide) y5
  have y3 := chs x3 (by decide) y4
  have y2 := chs x2 (by decide) y3
  have y1 := chs x1 (by decide) y2
  have y0 := chs x0 (by decide) y1
  exact InK.of e w s y0
end Hk
open Lean in
local macro_rules
  | `($f:ident $h:term) => do
    let n := f.getId.eraseMacroScopes
    unless n == `Hook.obs || n == `Hook.val || n == `Hook.of do Macro.throwUnsupported
    match h with
    | `(($g:ident $k $a $e)) =>
      unless g.getId.eraseMacroScopes == `kHook do Macro.throwUnsupported
      if n == `Hook.obs then `(fun (s : PySem.Shared) => ((((((($a).drop 0).take 64).map s.heap.get?, ((($a).drop 64).take 64).map s.heap.get?), (((($a).drop 128).take 64).map s.heap.get?, ((($a).drop 192).take 64).map s.heap.get?)), ((((($a).drop 256).take 64).map s.heap.get?, ((($a).drop 320).take 64).map s.heap.get?), (((($a).drop 384).take 64).map s.heap.get?, ((($a).drop 448).take 64).map s.heap.get?))), (((((($a).drop 512).take 64).map s.heap.get?, ((($a).drop 576).take 64).map s.heap.get?), (((($a).drop 640).take 64).map s.heap.get?, ((($a).drop 704).take 64).map s.heap.get?)), ((((($a).drop 768).take 64).map s.heap.get?, ((($a).drop 832).take 64).map s.heap.get?), (((($a).drop 896).take 64).map s.heap.get?, (($a).drop 960).map s.heap.get?)))))
      else if n == `Hook.val then `(fun (w : PySem.World) => (((((((($k) w.params).drop 0).take 64).map (fun p => some p.2), (((($k) w.params).drop 64).take 64).map (fun p => some p.2)), ((((($k) w.params).drop 128).take 64).map (fun p => some p.2), (((($k) w.params).drop 192).take 64).map (fun p => some p.2))), (((((($k) w.params).drop 256).take 64).map (fun p => some p.2), (((($k) w.params).drop 320).take 64).map (fun p => some p.2)), ((((($k) w.params).drop 384).take 64).map (fun p => some p.2), (((($k) w.params).drop 448).take 64).map (fun p => some p.2)))), ((((((($k) w.params).drop 512).take 64).map (fun p => some p.2), (((($k) w.params).drop 576).take 64).map (fun p => some p.2)), ((((($k) w.params).drop 640).take 64).map (fun p => some p.2), (((($k) w.params).drop 704).take 64).map (fun p => some p.2))), (((((($k) w.params).drop 768).take 64).map (fun p => some p.2), (((($k) w.params).drop 832).take 64).map (fun p => some p.2)), ((((($k) w.params).drop 896).take 64).map (fun p => some p.2), ((($k) w.params).drop 960).map (fun p => some p.2))))))
      else `(Hk.ch (K := $k) (as := $a) $e)
    | _ => Macro.throwUnsupported
open PySem PySem.W PyProof.Rows
set_option maxHeartbeats 0 in
open_top PySem.Challenge.hd40 for PySem.Challenge.rw_askpaper_k40_rounds_one_by_one
end
namespace L2
open PySem PySem.Spec PyProof.Rows
abbrev Key := Sum Int Str
def keyIs : Key → Value → Bool
 | .inl k, v => Value.isInt k v
 | .inr x, v => Value.isStrOf x v
def keyH (w : World) : Key → Int
 | .inl k => hashInt k
 | .inr x => hashStr w x
theorem yG : ∀ {k : Key} {v : Value}, keyIs k v = true → (∃ i t, k = Sum.inl i ∧ v = Value.int i t) ∨ (∃ x t, k = Sum.inr x ∧ v = Value.str x t)
 | .inl i, v, h => by
   obtain ⟨t, e⟩ := Value.isInt_shape (k := i) (v := v) h
   exact .inl ⟨i, t, rfl, e⟩
 | .inr x, v, h => by
   obtain ⟨t, e⟩ := Value.isStrOf_shape (x := x) (v := v) h
   exact .inr ⟨x, t, rfl, e⟩
theorem keyIs_int (i : Int) (t : Tok) : keyIs (.inl i) (.int i t) = true := by simp [keyIs, Value.isInt]
theorem keyIs_str (x : Str) (t : Tok) : keyIs (.inr x) (.str x t) = true := by simp [keyIs, Value.isStrOf]
theorem key_ll (a b : Int) : decide ((Sum.inl a : Key) = Sum.inl b) = (a == b) := by
 by_cases e : a = b
 · subst e; simp
 · have h : ¬ (Sum.inl a : Key) = Sum.inl b := fun q => e (Sum.inl.inj q)
   rw [decide_eq_false h]
   exact (beq_eq_false_iff_ne.mpr e).symm
theorem key_rr (a b : Str) : decide ((Sum.inr a : Key) = Sum.inr b) = decide (a = b) := by
 by_cases e : a = b
 · subst e; simp
 · have h : ¬ (Sum.inr a : Key) = Sum.inr b := fun q => e (Sum.inr.inj q)
   rw [decide_eq_false h, decide_eq_false e]
theorem key_lr (a : Int) (b : Str) : decide ((Sum.inl a : Key) = Sum.inr b) = false := decide_eq_false (fun q => nomatch q)
theorem key_rl (a : Str) (b : Int) : decide ((Sum.inr a : Key) = Sum.inl b) = false := decide_eq_false (fun q => nomatch q)
def mixKind (prog : Program) (w : World) : PySem.KeyKind prog w Key where
 is := keyIs
 hash := keyH w
 inj := fun v a b ha hb => by
   rcases yG ha with ⟨i, t, rfl, rfl⟩ | ⟨x, t, rfl, rfl⟩
   · rcases yG hb with ⟨j, u, rfl, e⟩ | ⟨y, u, rfl, e⟩
     · injection e with e1 _; rw [e1]
     · exact nomatch e
   · rcases yG hb with ⟨j, u, rfl, e⟩ | ⟨y, u, rfl, e⟩
     · exact nomatch e
     · injection e with e1 _; rw [e1]
 byValue := fun k v h => by
   rcases yG h with ⟨i, t, rfl, rfl⟩ | ⟨x, t, rfl, rfl⟩ <;> rfl
 pyHash := fun hv h => by
   rcases yG hv with ⟨i, t, rfl, rfl⟩ | ⟨x, t, rfl, rfl⟩
   · exact wpAny_pyHash_int h
   · exact wpAny_pyHash_str h
 eqBool := fun hu hv h => by
   rcases yG hu with ⟨i, t, rfl, rfl⟩ | ⟨x, t, rfl, rfl⟩
   · rcases yG hv with ⟨j, u, rfl, rfl⟩ | ⟨y, u, rfl, rfl⟩
     · rw [key_ll] at h; exact wpAny_eqBool_int h
     · rw [key_lr] at h; exact SeqAt.EqAt.int_str i t y u _ _ _ _ h
   · rcases yG hv with ⟨j, u, rfl, rfl⟩ | ⟨y, u, rfl, rfl⟩
     · rw [key_rl] at h; exact SeqAt.EqAt.str_int x t j u _ _ _ _ h
     · rw [key_rr] at h; exact wpAny_eqBool_str h
 «strs» := fun k x t v h => by
   rcases yG h with ⟨i, u, rfl, e⟩ | ⟨y, u, rfl, e⟩
   · exact nomatch e
   · injection e with e1 _
     subst e1
     cases v <;> rfl
theorem mixKind_is (prog : Program) (w : World) (k : Key) (v : Value) : (mixKind prog w).is k v = keyIs k v := rfl
theorem mixKind_int (prog : Program) (w : World) (i : Int) (t : Tok) : (mixKind prog w).is (.inl i) (.int i t) = true := keyIs_int i t
theorem mixKind_str (prog : Program) (w : World) (x : Str) (t : Tok) : (mixKind prog w).is (.inr x) (.str x t) = true := keyIs_str x t
end L2
namespace L2
open PySem PySem.Spec PyProof.Rows
inductive V where
 | non | bl (b : Bool) | int (i : Int) | str (x : Str) | byt (b : Array UInt8) | flt (b : UInt64) | ref (a : Addr) | ty (n : String)
 deriving DecidableEq
def RelV : V → Value → Prop
 | .non, u => u = Value.none
 | .bl b, u => u = Value.bool b
 | .int i, u => ∃ t, u = Value.int i t
 | .str x, u => ∃ t, u = Value.str x t
 | .byt b, u => ∃ t, u = Value.bytes b t
 | .flt b, u => ∃ t, u = Value.float b t
 | .ref a, u => u = Value.ref a
 | .ty n, u => u = Value.type n
abbrev Vals : List V → List Value → Prop := Paired RelV
theorem Vals.length {xs : List V} {us : List Value} (r : Vals xs us) : xs.length = us.length := Paired.length r
theorem Vals.get : ∀ {xs : List V} {us : List Value} {i : Nat} {x : V}, Vals xs us → xs[i]? = some x → ∃ u, us[i]? = some u ∧ RelV x u
 | _, _, _, _, .nil, e => by simp at e
 | _, _, 0, _, .cons r _, e => by simp at e; subst e; exact ⟨_, rfl, r⟩
 | _, _, i + 1, x, .cons _ t, e => by
   obtain ⟨u, h1, h2⟩ := Vals.get (i := i) (x := x) t (by simpa using e)
   exact ⟨u, by simpa using h1, h2⟩
theorem Vals.set {x : V} {u : Value} (r : RelV x u) : ∀ {xs : List V} {us : List Value} (i : Nat), Vals xs us → Vals (xs.set i x) (us.set i u)
 | _, _, _, .nil => .nil
 | _, _, 0, .cons _ t => .cons r t
 | _, _, i + 1, .cons q t => .cons q (Vals.set r i t)
theorem Vals.append : ∀ {xs ys : List V} {us ws : List Value}, Vals xs us → Vals ys ws → Vals (xs ++ ys) (us ++ ws)
 | _, _, _, _, .nil, s => s
 | _, _, _, _, .cons r t, s => .cons r (Vals.append t s)
theorem Vals.take : ∀ {xs : List V} {us : List Value} (n : Nat), Vals xs us → Vals (xs.take n) (us.take n)
 | _, _, 0, _ => .nil
 | _, _, _ + 1, .nil => .nil
 | _, _, n + 1, .cons r t => .cons r (Vals.take n t)
theorem Vals.drop : ∀ {xs : List V} {us : List Value} (n : Nat), Vals xs us → Vals (xs.drop n) (us.drop n)
 | _, _, 0, r => r
 | _, _, _ + 1, .nil => .nil
 | _, _, n + 1, .cons _ t => Vals.drop n t
theorem Vals.none_of : ∀ {xs : List V} {us : List Value} {i : Nat}, Vals xs us → xs[i]? = none → us[i]? = none := fun {xs us i} r e => by
 have h1 := r.length
 have h2 : xs.length ≤ i := List.getElem?_eq_none_iff.mp e
 exact List.getElem?_eq_none_iff.mpr (by omega)
def RelO : Option V → Option Value → Prop
 | some v, some u => RelV v u
 | none, none => True
 | _, _ => False
def KV {κ : Type} : List (κ × V) → List (κ × Value) → Prop := Paired fun (p : κ × V) (q : κ × Value) => p.1 = q.1 ∧ RelV p.2 q.2
def kV : Key → V
 | .inl i => .int i
 | .inr x => .str x
inductive HO where
 | lst (xs : List V)
 | tup (xs : List V)
 | dK (kvs : List (Key × V)) | dT (kvs : List (List Key × V))
 | set (S : Int → Bool) (n : Nat)
 | ins (C dx : Addr) (fs : List (Str × V))
 | own (x : Addr)
 | xd (fs : List (Str × V))
 | met (f x : Addr)
 | rng (lo hi : Int)
 | frz (o : Obj) (u : HO)
 | tbl (ps : Array Value)
 | ext (φ : Heap → Prop)
abbrev Hp := Addr → Option HO
def upd (H : Hp) (a : Addr) (o : HO) : Hp := fun b => if b = a then some o else H b
theorem zB {H : Hp} {a : Addr} {o : HO} : upd H a o a = some o := by unfold upd; rw [if_pos rfl]
theorem zK {H : Hp} {a b : Addr} {o : HO} (h : b ≠ a) : upd H a o b = H b := by unfold upd; rw [if_neg h]
theorem yO {H : Hp} {a : Addr} {o u : HO} : upd (upd H a o) a u = upd H a u := by
 funext b; unfold upd; split <;> rfl
theorem ne_of {H : Hp} {a b : Addr} {o u : HO} (h : H a = some o) (h' : H b = some u) (d : o ≠ u) : a ≠ b := by
 intro e; subst e; rw [h] at h'; exact d (Option.some.inj h')
theorem zI {H : Hp} {a b : Addr} {o : HO} (h : H a = some o) (h' : H b = none) : a ≠ b := by
 intro e; subst e; rw [h] at h'; cases h'
section
variable (P : Program) (w : World)
def ObjOk (H : Hp) (h : Heap) (a : Addr) : HO → Prop
 | .lst xs => xs.length ≤ sizeLine ∧ ∃ (its : List Value) (n : Nat), Vals xs its ∧ h.get? a = some { cls := .type "list", data := .seq its.toArray n }
 | .tup xs => xs.length ≤ sizeLine ∧ ∃ its : List Value, Vals xs its ∧ IsTup h a its.toArray
 | .dK kvs => kvs.length ≤ sizeLine ∧ (a == sysModules) = false ∧ ∃ vs, KV kvs vs ∧ h.DictOf (mixKind P w) a vs
 | .dT kvs => kvs.length ≤ sizeLine ∧ (a == sysModules) = false ∧ ∃ xs : List (List Key × Addr × Value),
     Paired (fun (p : List Key × V) (q : List Key × Addr × Value) => p.1 = q.1 ∧ H q.2.1 = some (.tup (p.1.map kV)) ∧ RelV p.2 q.2.2) kvs xs ∧
     ∃ o es ep, h.get? a = some o ∧ o.ExactDict ∧ o.data = .dict es ep ∧ es.toList = xs.map (entryOfKey (tupleKind (mixKind P w))) ∧ (xs.map (·.1)).Nodup
 | .set S n => h.SetOf (intKind P w) a S n
 | .ins C dx fs => H dx = some (.own a) ∧ fs.length ≤ 1000 ∧ dx ≠ a ∧ h.get? a = some (PySem.W.instObj C dx) ∧
     ∃ mA, h.Ns1 dx mA ∧ (∀ f, RelO (fs.lookup f) (mA f)) ∧ PySem.Within mA (fs.map (·.1))
 | .own _ => ∃ o, h.get? a = some o
 | .xd fs => ∃ mA, h.Ns1 a mA ∧ ∀ f, RelO (fs.lookup f) (mA f)
 | .rng lo hi => ∃ t u v, h.get? a = some { cls := .type "range", data := .fields #[.int lo t, .int hi u, .int 1 v] }
 | .frz o u => h.get? a = some o ∧ ObjOk H h a u
 | .tbl ps => h.get? a = some { cls := .none, data := .fields ps }
 | .met f x => h.get? a = some (PySem.W.methodObj (.ref f) (.ref x))
 | .ext φ => φ h ∧ (∃ o, h.get? a = some o) ∧ ∀ h1 h2 : Heap, φ h1 → (∀ o, h1.get? a = some o → h2.get? a = some o) → φ h2
def HOk (H : Hp) (h : Heap) : Prop := ∀ a o, H a = some o → ObjOk P w H h a o
end
section
variable {P : Program} {w : World} {H H' : Hp} {h h' : Heap} {a : Addr} {o : HO}
theorem ObjOk.lt (x : ObjOk P w H h a o) : a < h.objs.size := by
 cases o with
 | lst xs => obtain ⟨_, _, _, _, e⟩ := x; exact Heap.lt_size e
 | tup xs => obtain ⟨_, _, _, p⟩ := x; exact p.lt
 | dK kvs => obtain ⟨_, _, _, _, o, _, _, e, _⟩ := x; exact Heap.lt_size e
 | dT kvs => obtain ⟨_, _, _, _, o, _, _, e, _⟩ := x; exact Heap.lt_size e
 | set S n => obtain ⟨o, _, _, _, e, _⟩ := x; exact Heap.lt_size e
 | ins C dx fs => obtain ⟨_, _, _, e, _⟩ := x; exact Heap.lt_size e
 | own y => obtain ⟨_, e⟩ := x; exact Heap.lt_size e
 | xd fs => obtain ⟨_, ⟨_, _, _, e, _⟩, _⟩ := x; exact Heap.lt_size e
 | rng lo hi => obtain ⟨_, _, _, e⟩ := x; exact Heap.lt_size e
 | frz ob u => obtain ⟨e, _⟩ := x; exact Heap.lt_size e
 | tbl ps => exact Heap.lt_size (show h.get? a = some _ from x)
 | met f y => exact Heap.lt_size (show h.get? a = some _ from x)
 | ext φ => obtain ⟨_, ⟨_, e⟩, _⟩ := x; exact Heap.lt_size e
theorem Paired.mapP {α β : Type} {F G : α → β → Prop} : ∀ {l₁ : List α} {l₂ : List β}, Paired F l₁ l₂ → (∀ a b, F a b → G a b) → Paired G l₁ l₂
 | _, _, .nil, _ => .nil
 | _, _, .cons r t, f => .cons (f _ _ r) (Paired.mapP t f)
theorem ObjOk.stay (x : ObjOk P w H h a o) (k : ∀ b u, (b = a ∨ H b = some (.own a)) → h.get? b = some u → h'.get? b = some u)
   (ho : ∀ b, H b = some (.own a) → H' b = some (.own a)) (ht : ∀ b xs, H b = some (.tup xs) → H' b = some (.tup xs)) : ObjOk P w H' h' a o := by
 induction o with
 | lst xs => obtain ⟨z, its, n, r, e⟩ := x; exact ⟨z, its, n, r, k _ _ (.inl rfl) e⟩
 | tup xs => obtain ⟨z, its, r, ob, e, c⟩ := x; exact ⟨z, its, r, ob, k _ _ (.inl rfl) e, c⟩
 | dK kvs => obtain ⟨z, y, vs, r, ob, es, ep, e, c⟩ := x; exact ⟨z, y, vs, r, ob, es, ep, k _ _ (.inl rfl) e, c⟩
 | dT kvs =>
   obtain ⟨z, y, xs, r, ob, es, ep, e, c⟩ := x
   exact ⟨z, y, xs, Paired.mapP r fun p q z => ⟨z.1, ht _ _ z.2.1, z.2.2⟩, ob, es, ep, k _ _ (.inl rfl) e, c⟩
 | set S n => obtain ⟨ob, es, ep, t, e, c⟩ := x; exact ⟨ob, es, ep, t, k _ _ (.inl rfl) e, c⟩
 | ins C dx fs =>
   obtain ⟨d, z, ne, e, mA, ⟨od, es, ep, e2, c⟩, r⟩ := x
   exact ⟨ho _ d, z, ne, k _ _ (.inl rfl) e, mA, ⟨od, es, ep, k _ _ (.inr d) e2, c⟩, r⟩
 | own y => obtain ⟨ob, e⟩ := x; exact ⟨ob, k _ _ (.inl rfl) e⟩
 | xd fs => obtain ⟨mA, ⟨od, es, ep, e, c⟩, r⟩ := x; exact ⟨mA, ⟨od, es, ep, k _ _ (.inl rfl) e, c⟩, r⟩
 | rng lo hi => obtain ⟨t, u, v, e⟩ := x; exact ⟨t, u, v, k _ _ (.inl rfl) e⟩
 | frz ob u ih => obtain ⟨e, q⟩ := x; exact ⟨k _ _ (.inl rfl) e, ih q⟩
 | tbl ps =>
   have e : h.get? a = some { cls := .none, data := .fields ps } := x
   show h'.get? a = some { cls := .none, data := .fields ps }
   exact k a _ (.inl rfl) e
 | met f y =>
   have e : h.get? a = some (PySem.W.methodObj (.ref f) (.ref y)) := x
   show h'.get? a = some (PySem.W.methodObj (.ref f) (.ref y))
   exact k a _ (.inl rfl) e
 | ext φ => obtain ⟨p, ⟨o, e⟩, st⟩ := x; exact ⟨st _ _ p fun o q => k _ _ (.inl rfl) q, ⟨o, k _ _ (.inl rfl) e⟩, st⟩
theorem HOk.lt (x : HOk P w H h) (e : H a = some o) : a < h.objs.size := (x a o e).lt
theorem HOk.fresh (x : HOk P w H h) (e : h.objs.size ≤ a) : H a = none := by
 cases q : H a with
 | none => rfl
 | some u => exact absurd (Nat.lt_of_lt_of_le (x.lt q) e) (Nat.lt_irrefl _)
theorem HOk.kept (x : HOk P w H h) (k : ∀ b u, h.get? b = some u → h'.get? b = some u) : HOk P w H h' := fun a o e =>
 (x a o e).stay (fun b u _ q => k b u q) (fun _ q => q) fun _ _ q => q
theorem HOk.laid (x : HOk P w H h) (k : ∀ b u, h.get? b = some u → h'.get? b = some u) (hp : h.objs.size ≤ a) (new : ObjOk P w (upd H a o) h' a o) : HOk P w (upd H a o) h' := fun b u e => by
 have hn := x.fresh hp
 by_cases hb : b = a
 · subst hb; rw [zB] at e; cases e; exact new
 · rw [zK hb] at e
   exact (x b u e).stay (fun c v _ q => k c v q) (fun c q => by rw [zK (zI q hn)]; exact q) fun c xs q => by rw [zK (zI q hn)]; exact q
end
def Rd (H : Hp) (a : Addr) (u : HO) : Prop := H a = some u ∨ ∃ o, H a = some (.frz o u)
theorem Rd.of {H : Hp} {a : Addr} {u : HO} (h : H a = some u) : Rd H a u := .inl h
theorem Rd.ok {P : Program} {w : World} {H : Hp} {h : Heap} {a : Addr} {u : HO} (r : Rd H a u) (x : HOk P w H h) : ObjOk P w H h a u := by
 rcases r with r | ⟨o, r⟩
 · exact x a u r
 · obtain ⟨_, q⟩ := x a _ r
   exact q
def Mut : Option HO → Prop
 | some (.lst _) => True
 | some (.dK _) => True
 | some (.dT _) => True
 | some (.set _ _) => True
 | some (.ins _ _ _) => True
 | some (.ext _) => True
 | _ => False
section
variable {P : Program} {w : World} {H : Hp} {h h' : Heap} {x e : Addr} {o' : HO}
theorem HOk.write (ok : HOk P w H h) (mu : Mut (H x)) (he : e = x ∨ H e = some (.own x)) (k : ∀ b u, b ≠ e → h.get? b = some u → h'.get? b = some u) (heo : ∃ u, h'.get? e = some u)
   (new : ObjOk P w (upd H x o') h' x o') : HOk P w (upd H x o') h' := fun b u q => by
 have nown : ∀ c y, H c = some (.own y) → c ≠ x := fun c y r z => by subst z; rw [r] at mu; exact mu
 have ntup : ∀ c xs, H c = some (.tup xs) → c ≠ x := fun c xs r z => by subst z; rw [r] at mu; exact mu
 by_cases hb : b = x
 · subst hb; rw [zB] at q; cases q; exact new
 · rw [zK hb] at q
   by_cases hbe : b = e
   · have q' : H b = some (.own x) := by
       rcases he with z | z
       · exact absurd (hbe.trans z) hb
       · rw [hbe]; exact z
     rw [q] at q'; cases q'
     obtain ⟨v, hv⟩ := heo
     exact ⟨v, by rw [hbe]; exact hv⟩
   · refine (ok b u q).stay (fun c v hc r => k c v ?_ r) (fun c r => by rw [zK (nown c b r)]; exact r) fun c xs r => by rw [zK (ntup c xs r)]; exact r
     rcases hc with rfl | hc
     · exact hbe
     · rintro rfl
       rcases he with z | z
       · exact nown c b hc z
       · rw [hc] at z; cases z; exact hb rfl
end
structure Un (fs ex : List Addr) (H H' : Hp) (h h' : Heap) : Prop where
 keep : ∀ b o, h.get? b = some o → H b = none → b ∉ fs → b ∉ ex → h'.get? b = some o
 slot : ∀ b o, h.get? b = some o → H b = none → b ∈ fs → b ∉ ex → ∃ sl, h'.get? b = some { o with slots := sl }
 free : ∀ b o, h.get? b = some o → H b = none → b ∉ ex → H' b = none
 there : ∀ b o, h.get? b = some o → b ∉ ex → ∃ o', h'.get? b = some o'
 tups : ∀ b xs, H b = some (.tup xs) → H' b = some (.tup xs)
 frzs : ∀ b o u, H b = some (.frz o u) → H' b = some (.frz o u)
 tbls : ∀ b ps, H b = some (.tbl ps) → ∃ more, H' b = some (.tbl (ps ++ more))
section
variable {fs fs' ex ex' : List Addr} {H H1 H2 : Hp} {h h1 h2 h' : Heap} {a x e : Addr} {o : HO}
theorem Un.any (u : Un fs ex H H1 h h1) {b : Addr} {ob : Obj} (q : h.get? b = some ob) (n : H b = none) (hx : b ∉ ex) : ∃ sl, h1.get? b = some { ob with slots := sl } := by
 by_cases hb : b ∈ fs
 · exact u.slot b ob q n hb hx
 · exact ⟨ob.slots, u.keep b ob q n hb hx⟩
theorem Un.trans (a : Un fs ex H H1 h h1) (b : Un fs ex H1 H2 h1 h2) : Un fs ex H H2 h h2 where
 keep := fun c ob q n hc hx => b.keep c ob (a.keep c ob q n hc hx) (a.free c ob q n hx) hc hx
 slot := fun c ob q n hc hx => by
   obtain ⟨sl, e1⟩ := a.slot c ob q n hc hx
   obtain ⟨sl', e2⟩ := b.slot c _ e1 (a.free c ob q n hx) hc hx
   exact ⟨sl', e2⟩
 free := fun c ob q n hx => by
   obtain ⟨o', e1⟩ := a.there c ob q hx
   exact b.free c o' e1 (a.free c ob q n hx) hx
 there := fun c ob q hx => by
   obtain ⟨o', e1⟩ := a.there c ob q hx
   exact b.there c o' e1 hx
 tups := fun c xs q => b.tups c xs (a.tups c xs q)
 frzs := fun c ob xs q => b.frzs c ob xs (a.frzs c ob xs q)
 tbls := fun c ps q => by
   obtain ⟨m1, e1⟩ := a.tbls c ps q
   obtain ⟨m2, e2⟩ := b.tbls c _ e1
   exact ⟨m1 ++ m2, by rw [e2, Array.append_assoc]⟩
theorem Un.kept (k : ∀ b u, h.get? b = some u → h'.get? b = some u) : Un fs ex H H h h' :=
 ⟨fun b ob q _ _ _ => k b ob q, fun b ob q _ _ _ => ⟨ob.slots, k b ob q⟩, fun _ _ _ n _ => n, fun b ob q _ => ⟨ob, k b ob q⟩, fun _ _ q => q, fun _ _ _ q => q, fun _ ps q => ⟨#[], by rw [q]; simp⟩⟩
theorem Un.refl : Un fs ex H H h h := Un.kept fun _ _ q => q
theorem Un.laid (k : ∀ b u, h.get? b = some u → h'.get? b = some u) (hp : h.objs.size ≤ a) (hn : H a = none) : Un fs ex H (upd H a o) h h' where
 keep := fun b u q _ _ _ => k b u q
 slot := fun b u q _ _ _ => ⟨u.slots, k b u q⟩
 free := fun b u q n _ => by rw [zK (Nat.ne_of_lt (Nat.lt_of_lt_of_le (Heap.lt_size q) hp))]; exact n
 there := fun b u q _ => ⟨u, k b u q⟩
 tups := fun b xs q => by rw [zK (zI q hn)]; exact q
 frzs := fun b u xs q => by rw [zK (zI q hn)]; exact q
 tbls := fun b ps q => ⟨#[], by rw [zK (zI q hn), q]; simp⟩
theorem Un.write (mu : Mut (H x)) (he : e = x ∨ H e = some (.own x)) (k : ∀ b u, b ≠ e → h.get? b = some u → h'.get? b = some u) (heo : ∃ u, h'.get? e = some u) : Un fs ex H (upd H x o) h h' := by
 have hx : ∀ b, H b = none → b ≠ x := fun b n z => by subst z; rw [n] at mu; exact mu
 have hb : ∀ b, H b = none → b ≠ e := fun b n z => by
   subst z
   rcases he with r | r
   · exact hx b n r
   · rw [n] at r; cases r
 have hm : ∀ b u, H b = some u → ¬ Mut (some u) → b ≠ x := fun b u q nm z => by subst z; rw [q] at mu; exact nm mu
 refine ⟨fun b u q n _ _ => k b u (hb b n) q, fun b u q n _ _ => ⟨u.slots, k b u (hb b n) q⟩, fun b u q n _ => by rw [zK (hx b n)]; exact n, fun b u q _ => ?_,
   fun b xs q => by rw [zK (hm b _ q fun z => z)]; exact q, fun b u xs q => by rw [zK (hm b _ q fun z => z)]; exact q, fun b ps q => ⟨#[], by rw [zK (hm b _ q fun z => z), q]; simp⟩⟩
 by_cases hbe : b = e
 · subst hbe; exact heo
 · exact ⟨u, k b u hbe q⟩
theorem Un.mono (u : Un fs ex H H1 h h1) (hs : ∀ b ∈ fs, b ∈ fs') (hx : ∀ b ∈ ex, b ∈ ex') : Un fs' ex' H H1 h h1 :=
 ⟨fun b ob q n hb he => u.keep b ob q n (fun z => hb (hs b z)) fun z => he (hx b z), fun _ _ q n _ he => u.any q n fun z => he (hx _ z), fun b ob q n he => u.free b ob q n fun z => he (hx b z), fun b ob q he => u.there b ob q fun z => he (hx b z), u.tups, u.frzs, u.tbls⟩
end
def trk (h : Heap) (H : Hp) : List Addr := (List.range h.objs.size).filter fun a => (H a).isSome
def hidT (h : Heap) (H : Hp) : Heap := PySem.W.hideAll h (trk h H)
theorem hidT_size (h : Heap) (H : Hp) : (hidT h H).objs.size = h.objs.size := PySem.W.hideAll_size _ _
theorem hidT_get {h : Heap} {H : Hp} {b : Addr} {o : Obj} (e : h.get? b = some o) (n : H b = none) : (hidT h H).get? b = some o :=
 PySem.W.hideAll_get _ e fun hm => by
   have q : (H b).isSome = true := (List.mem_filter.mp hm).2
   rw [n] at q; simp at q
theorem of_hidT {h : Heap} {H : Hp} {b : Addr} {o : Obj} (e : (hidT h H).get? b = some o) : h.get? b = some o ∧ H b = none := by
 have e' : h.get? b = some o := PySem.W.of_hideAll (trk h H) e
 refine ⟨e', ?_⟩
 cases q : H b with
 | none => rfl
 | some x =>
   have hm : b ∈ trk h H := List.mem_filter.mpr ⟨List.mem_range.mpr (Heap.lt_size e'), by simp [q]⟩
   have z : (hidT h H).get? b = none := PySem.W.hideAll_none (trk h H) hm
   rw [z] at e; cases e
def allNews (g h : Heap) (L : Addr) : List (Addr × Obj) := (List.range h.objs.size).filterMap fun a => if a = L ∨ (g.get? a).isSome = true then none else (h.get? a).map fun o => (a, o)
def rest (g h : Heap) (L d : Addr) : List (Addr × Obj) := (allNews g h L).filter fun p => decide (p.1 ≠ d)
end L2
namespace L2
open PySem PySem.Spec PyProof.Rows
structure Mod (K : PySem.W.Frag) (mg : Str → Option Value) (base : Heap) : Prop where
 kin : K.In base
 glob : base.Ns mainGlobals mg
 blt : ∃ mb, base.Ns builtinsNs mb ∧ ∀ x : Str, x ≠ "__name__" → mb x = bootBuiltins x
 nolimit : base.NoLimit
structure Cx where
 prog : Program
 w : World
 K : PySem.W.Frag
 mg : Str → Option Value
 base : Heap
 A : Around
 N : List Str
 s₀ : Shared
 H₀ : Hp
 env : Env
 outer : List Env
 stack : List Env
 ex : List Addr
 fn : Str → Bool
 calm : Bool
 pn : List (Addr × Obj)
 xe : Value → Shared → Prop
def frs (l : List Env) : List Addr := l.filterMap (·.frame)
abbrev Cx.fs (X : Cx) : List Addr := frs X.outer
def Vis (sc : Scope) (x : Str) : Prop := sc.names.lookup x = some .local ∨ sc.names.lookup x = some .cell ∨ sc.names.lookup x = some .free
def Loc (sc : Scope) (x : Str) : Prop := sc.names.lookup x = some .local ∨ sc.names.lookup x = some .cell
def Look (env : Env) (h : Heap) (m : Str → Option Value) (x : Str) (u : Value) : Prop :=
 (env.kindOf x = some .local ∧ m x = some u) ∨ ((env.kindOf x = some .cell ∨ env.kindOf x = some .free) ∧ ∃ c, env.cells.lookup x = some c ∧ h.IsCell c (some u))
structure Cx.Ok (X : Cx) : Prop where
 mod : Mod X.K X.mg X.base
 kind : X.env.scope.kind = .function
 glob : X.env.globals = mainGlobals
 blt : X.env.builtins = builtinsNs
 above : X.s₀.heap.objs.size ≤ X.env.locals
 inj : ∀ x y c, X.env.cells.lookup x = some c → X.env.cells.lookup y = some c → x = y
 has : ∀ x, (X.env.kindOf x = some .cell ∨ X.env.kindOf x = some .free) → ∃ c, X.env.cells.lookup x = some c
 cab : ∀ x c, X.fn x = true → X.env.cells.lookup x = some c → X.s₀.heap.objs.size ≤ c
 hd : X.calm = true → X.A.handled = none
 frames : X.A.frames = some X.stack
 stk : X.stack = X.outer ∨ (X.stack = X.env :: X.outer ∧ X.env.frame = some X.env.locals)
 exf : ∀ b ∈ X.ex, b ≠ X.env.locals ∧ ∀ x c, X.env.cells.lookup x = some c → c ≠ b
 bs : ∀ b o, X.base.get? b = some o → X.s₀.heap.get? b = some o ∧ X.H₀ b = none
 bsz : X.base.objs.size ≤ X.s₀.heap.objs.size
 noex : ∀ b o, X.base.get? b = some o → b ∉ X.ex
 exfs : ∀ b ∈ X.ex, b ∉ X.fs
 funs : X.s₀.heap.FunFrames X.base X.outer
 frf : ∀ b ∈ X.fs, X.H₀ b = none
structure Inv (X : Cx) (pins : List (Addr × Obj)) (σ : List (Option V)) (H : Hp) (s : Shared) : Prop where
 ok : X.Ok
 os : s.os = X.s₀.os
 bare : AllBare s.gens
 base : Un X.fs X.ex X.H₀ H X.s₀.heap s.heap
 loc : ∃ m, s.heap.Ns X.env.locals m ∧ ∀ (i : Nat) (x : Str) (v : V), X.N[i]? = some x → σ[i]? = some (some v) → Vis X.env.scope x → ∃ u, RelV v u ∧ Look X.env s.heap m x u
 cell : ∀ x c, X.env.cells.lookup x = some c → ∃ v, s.heap.IsCell c v
 free : H X.env.locals = none
 freeC : ∀ x c, X.env.cells.lookup x = some c → H c = none
 pin : ∀ p ∈ X.pn ++ pins, s.heap.get? p.1 = some p.2 ∧ H p.1 = none ∧ p.1 ≠ X.env.locals ∧ p.1 ∉ X.fs ∧ ∀ v, p.2.data ≠ .cell v
 hok : HOk X.prog X.w H s.heap
 len : σ.length = X.N.length
section
variable {X : Cx} {pins : List (Addr × Obj)} {σ : List (Option V)} {H H' : Hp} {s : Shared} {h' : Heap}
theorem Cx.Ok.nofr (ok : X.Ok) {b : Addr} {o : Obj} (e : X.base.get? b = some o) : b ∉ X.fs := fun hb => by
 have := (ok.funs.mem hb).1
 rw [e] at this; cases this
theorem Inv.bs (I : Inv X pins σ H s) : ∀ b o, X.base.get? b = some o → s.heap.get? b = some o ∧ H b = none := fun b o e =>
 ⟨I.base.keep b o (I.ok.bs b o e).1 (I.ok.bs b o e).2 (I.ok.nofr e) (I.ok.noex b o e), I.base.free b o (I.ok.bs b o e).1 (I.ok.bs b o e).2 (I.ok.noex b o e)⟩
theorem Inv.bk (I : Inv X pins σ H s) : ∀ b o, X.base.get? b = some o → s.heap.get? b = some o := fun b o e => (I.bs b o e).1
theorem Inv.mod (I : Inv X pins σ H s) : Mod X.K X.mg X.base := I.ok.mod
theorem Inv.kIn (I : Inv X pins σ H s) : X.K.In s.heap := I.ok.mod.kin.keeps I.bk
theorem Inv.nolimit (I : Inv X pins σ H s) : s.heap.NoLimit := I.ok.mod.nolimit.keeps I.bk
theorem Inv.fr (I : Inv X pins σ H s) : ∃ m, Fr X.base X.env.locals s.heap m :=
 let ⟨m, hn, _⟩ := I.loc
 ⟨m, hn, I.bk, Nat.le_trans I.ok.bsz I.ok.above⟩
theorem Inv.lt (I : Inv X pins σ H s) : X.env.locals < s.heap.objs.size := let ⟨_, hn, _⟩ := I.loc; hn.lt
theorem Inv.sz (I : Inv X pins σ H s) : X.s₀.heap.objs.size ≤ s.heap.objs.size := Nat.le_trans I.ok.above (Nat.le_of_lt I.lt)
theorem Inv.nofs (I : Inv X pins σ H s) {a : Addr} (h : s.heap.objs.size ≤ a) : a ∉ X.fs := fun hb => by
 obtain ⟨_, o, ho, _⟩ := I.ok.funs.mem hb
 exact absurd (Nat.lt_of_lt_of_le (Heap.lt_size ho) (Nat.le_trans I.sz h)) (Nat.lt_irrefl _)
theorem Inv.cne (I : Inv X pins σ H s) : ∀ x c, X.env.cells.lookup x = some c → c ≠ X.env.locals := fun x c e z => by
 obtain ⟨v, o, ho, hd⟩ := I.cell x c e
 obtain ⟨m, ⟨o', es, ep, ho', hd', _⟩, _⟩ := I.loc
 rw [z, ho'] at ho; cases ho; rw [hd'] at hd; cases hd
theorem Inv.funs (I : Inv X pins σ H s) : s.heap.FunFrames X.base X.outer := by
 have all : ∀ (l : List Env), (∀ b ∈ frs l, b ∈ X.fs) → X.s₀.heap.FunFrames X.base l → s.heap.FunFrames X.base l := by
   intro l
   induction l with
   | nil => intro _ _; trivial
   | cons env r ih =>
     intro hs hl
     obtain ⟨hk, ⟨L, o, hf, hn, ho, hd⟩, hr⟩ := hl
     have hL : L ∈ X.fs := hs L (by unfold frs; rw [List.filterMap_cons, hf]; exact List.mem_cons_self)
     obtain ⟨sl, e⟩ := I.base.slot L o ho (I.ok.frf L hL) hL fun z => I.ok.exfs L z hL
     exact ⟨hk, ⟨L, _, hf, hn, e, hd⟩, ih (fun b hb => hs b (by unfold frs; rw [List.filterMap_cons, hf]; exact List.mem_cons_of_mem _ hb)) hr⟩
 exact all X.outer (fun _ hb => hb) I.ok.funs
theorem Inv.stack (I : Inv X pins σ H s) : s.heap.FunFrames X.base X.stack := by
 rcases I.ok.stk with e | ⟨e, hf⟩
 · rw [e]; exact I.funs
 · rw [e]
   obtain ⟨m, hn, _⟩ := I.loc
   refine .cons (by rw [I.ok.kind]; decide) hf hn ?_ I.funs
   exact Heap.get?_none_of_le (Nat.le_trans I.ok.bsz I.ok.above)
theorem Inv.stkSub (I : Inv X pins σ H s) : ∀ b ∈ frs X.stack, b ∈ X.env.locals :: X.fs := fun b hb => by
 rcases I.ok.stk with e | ⟨e, hf⟩
 · rw [e] at hb; exact List.mem_cons_of_mem _ hb
 · rw [e] at hb
   unfold frs at hb
   rw [List.filterMap_cons, hf] at hb
   exact hb
theorem Inv.stkFree (I : Inv X pins σ H s) : ∀ b ∈ frs X.stack, H b = none := fun b hb => by
 rcases List.mem_cons.mp (I.stkSub b hb) with e | hb
 · rw [e]; exact I.free
 · obtain ⟨_, o, ho, _⟩ := I.ok.funs.mem hb
   exact I.base.free b o ho (I.ok.frf b hb) fun z => I.ok.exfs b z hb
theorem Inv.step {g' : Array GenState} {t' : Nat} {d' : Drawn} {ch : List Addr} (I : Inv X pins σ H s)
   (hch : ∀ b ∈ ch, (b ∈ X.ex ∨ X.s₀.heap.objs.size ≤ b) ∧ b ≠ X.env.locals ∧ (∀ x c, X.env.cells.lookup x = some c → c ≠ b) ∧ ∀ p ∈ X.pn ++ pins, p.1 ≠ b)
   (keep : ∀ b o, b ≠ X.env.locals → b ∉ X.fs → b ∉ ch → s.heap.get? b = some o → H b = none → h'.get? b = some o)
   (slot : ∀ b o, b ≠ X.env.locals → b ∈ X.fs → b ∉ ch → s.heap.get? b = some o → H b = none → ∃ sl, h'.get? b = some { o with slots := sl }) (free : ∀ b o, b ∉ ch → s.heap.get? b = some o → H b = none → H' b = none)
   (there : ∀ b o, b ∉ ch → s.heap.get? b = some o → ∃ o', h'.get? b = some o')
   (tups : ∀ b xs, H b = some (.tup xs) → H' b = some (.tup xs)) (frzs : ∀ b o u, H b = some (.frz o u) → H' b = some (.frz o u)) (tbls : ∀ b ps, H b = some (.tbl ps) → ∃ more, H' b = some (.tbl (ps ++ more)))
   (ns : ∀ m, s.heap.Ns X.env.locals m → h'.Ns X.env.locals m) (hok : HOk X.prog X.w H' h') (hg : AllBare g') :
   Inv X pins σ H' { s with heap := h', gens := g', drawn := d', toks := t' } := by
 have neL : ∀ b o, X.s₀.heap.get? b = some o → b ≠ X.env.locals := fun b o e => Nat.ne_of_lt (Nat.lt_of_lt_of_le (Heap.lt_size e) I.ok.above)
 have neC : ∀ b o, X.s₀.heap.get? b = some o → b ∉ X.ex → b ∉ ch := fun b o e hx hb => by
   rcases (hch b hb).1 with z | z
   · exact hx z
   · exact absurd (Nat.lt_of_lt_of_le (Heap.lt_size e) z) (Nat.lt_irrefl _)
 have cellK : ∀ x c, X.env.cells.lookup x = some c → ∀ v, s.heap.IsCell c v → h'.IsCell c v := fun x c e v ⟨o, ho, hd⟩ => by
   have nch : c ∉ ch := fun z => (hch c z).2.2.1 x c e rfl
   by_cases hc : c ∈ X.fs
   · obtain ⟨sl, q⟩ := slot c o (I.cne x c e) hc nch ho (I.freeC x c e)
     exact ⟨_, q, hd⟩
   · exact ⟨o, keep c o (I.cne x c e) hc nch ho (I.freeC x c e), hd⟩
 refine ⟨I.ok, I.os, hg, ⟨fun b o e n hb hx => ?_, fun b o e n hb hx => ?_, fun b o e n hx => ?_, fun b o e hx => ?_, fun b xs e => tups b xs (I.base.tups b xs e), fun b o xs e => frzs b o xs (I.base.frzs b o xs e), fun b ps e => ?_⟩, ?_, fun x c e => ?_, ?_, fun x c e => ?_, fun p hp => ?_, hok, I.len⟩
 · exact keep b o (neL b o e) hb (neC b o e hx) (I.base.keep b o e n hb hx) (I.base.free b o e n hx)
 · obtain ⟨sl, e1⟩ := I.base.slot b o e n hb hx
   obtain ⟨sl', e2⟩ := slot b _ (neL b o e) hb (neC b o e hx) e1 (I.base.free b o e n hx)
   exact ⟨sl', e2⟩
 · obtain ⟨o', e1⟩ := I.base.there b o e hx
   exact free b o' (neC b o e hx) e1 (I.base.free b o e n hx)
 · obtain ⟨o', e1⟩ := I.base.there b o e hx
   exact there b o' (neC b o e hx) e1
 · obtain ⟨m1, e1⟩ := I.base.tbls b ps e
   obtain ⟨m2, e2⟩ := tbls b _ e1
   exact ⟨m1 ++ m2, by rw [e2, Array.append_assoc]⟩
 · obtain ⟨m, hn, hl⟩ := I.loc
   refine ⟨m, ns m hn, fun i x v e1 e2 e3 => ?_⟩
   obtain ⟨u, r, l⟩ := hl i x v e1 e2 e3
   refine ⟨u, r, ?_⟩
   rcases l with l | ⟨k, c, e, z⟩
   · exact .inl l
   · exact .inr ⟨k, c, e, cellK x c e _ z⟩
 · obtain ⟨v, z⟩ := I.cell x c e
   exact ⟨v, cellK x c e v z⟩
 · obtain ⟨m, ⟨o, _, _, ho, _⟩, _⟩ := I.loc
   exact free _ o (fun z => (hch _ z).2.1 rfl) ho I.free
 · obtain ⟨v, o, ho, hd⟩ := I.cell x c e
   exact free c o (fun z => (hch c z).2.2.1 x c e rfl) ho (I.freeC x c e)
 · obtain ⟨e, n, ne, nf, d⟩ := I.pin p hp
   have nch : p.1 ∉ ch := fun z => (hch p.1 z).2.2.2 p hp rfl
   exact ⟨keep p.1 p.2 ne nf nch e n, free p.1 p.2 nch e n, ne, nf, d⟩
theorem Inv.un {t' : Nat} (I : Inv X pins σ H s) (u : Un X.fs [] H H' s.heap h') (hok : HOk X.prog X.w H' h') : Inv X pins σ H' { s with heap := h', toks := t' } := by
 obtain ⟨m, ⟨o, es, ep, ho, r⟩, _⟩ := id I.loc
 obtain ⟨sl, hL⟩ := u.any ho I.free (by simp)
 exact I.step (g' := s.gens) (d' := s.drawn) (ch := []) (fun _ z => nomatch z) (fun b o _ hb _ e n => u.keep b o e n hb (by simp)) (fun b o _ hb _ e n => u.slot b o e n hb (by simp)) (fun b o _ e n => u.free b o e n (by simp)) (fun b o _ e => u.there b o e (by simp)) u.tups u.frzs u.tbls (fun m' hm => by
   obtain ⟨o', es', ep', ho', r'⟩ := hm
   rw [ho] at ho'; cases ho'
   exact ⟨_, es', ep', hL, r'⟩) hok I.bare
theorem Inv.call {g' : Array GenState} {t' : Nat} {d' : Drawn} {ch : List Addr} (I : Inv X pins σ H s) (u : Un (frs X.stack) ch H H' s.heap h') (hok : HOk X.prog X.w H' h') (hg : AllBare g')
   (hch : ∀ b ∈ ch, (b ∈ X.ex ∨ X.s₀.heap.objs.size ≤ b) ∧ b ≠ X.env.locals ∧ (∀ x c, X.env.cells.lookup x = some c → c ≠ b) ∧ ∀ p ∈ X.pn ++ pins, p.1 ≠ b) :
   Inv X pins σ H' { s with heap := h', gens := g', drawn := d', toks := t' } := by
 obtain ⟨m, ⟨o, es, ep, ho, r⟩, _⟩ := id I.loc
 obtain ⟨sl, hL⟩ := u.any ho I.free fun z => (hch _ z).2.1 rfl
 exact I.step (ch := ch) hch (fun b o hL hb hc e n => u.keep b o e n (fun z => (List.mem_cons.mp (I.stkSub b z)).elim hL hb) hc) (fun b o _ _ hc e n => u.any e n hc) (fun b o hc e n => u.free b o e n hc) (fun b o hc e => u.there b o e hc) u.tups u.frzs u.tbls (fun m' hm => by
   obtain ⟨o', es', ep', ho', r'⟩ := hm
   rw [ho] at ho'; cases ho'
   exact ⟨_, es', ep', hL, r'⟩) hok hg
theorem Inv.turned {t' : Nat} {it : Addr} (I : Inv X pins σ H s) (k : ∀ b o, b ≠ it → s.heap.get? b = some o → h'.get? b = some o) (hn : H it = none) (hL : it ≠ X.env.locals)
   (h1 : it ∈ X.ex ∨ X.s₀.heap.objs.size ≤ it) (h2 : ∀ x c, X.env.cells.lookup x = some c → c ≠ it) (h3 : ∀ p ∈ X.pn ++ pins, p.1 ≠ it) : Inv X pins σ H { s with heap := h', toks := t' } := by
 have nit : ∀ b u, H b = some u → b ≠ it := fun b u e z => by rw [z, hn] at e; cases e
 refine I.step (g' := s.gens) (d' := s.drawn) (ch := [it]) (fun b hb => ?_) (fun b o _ _ hc e _ => k b o (fun z => hc (by simp [z])) e) (fun b o _ _ hc e _ => ⟨o.slots, k b o (fun z => hc (by simp [z])) e⟩) (fun _ _ _ _ n => n)
   (fun b o hc e => ⟨o, k b o (fun z => hc (by simp [z])) e⟩) (fun _ _ e => e) (fun _ _ _ e => e) (fun b ps e => ⟨#[], by rw [e]; simp⟩) (fun m hm => ?_) (fun b u e => ?_) I.bare
 · have e : b = it := by simpa using hb
   subst e
   exact ⟨h1, hL, h2, h3⟩
 · obtain ⟨o, es, ep, ho, r⟩ := hm
   exact ⟨o, es, ep, k _ o (Ne.symm hL) ho, r⟩
 · refine (I.hok b u e).stay (fun c v hc q => k c v ?_ q) (fun _ q => q) fun _ _ q => q
   rcases hc with z | z
   · rw [z]; exact nit b u e
   · exact nit c _ z
theorem Inv.tok (I : Inv X pins σ H s) (t : Nat) : Inv X pins σ H { s with toks := t } := I.un (h' := s.heap) (t' := t) Un.refl I.hok
theorem Inv.kept {t' : Nat} (I : Inv X pins σ H s) (k : ∀ b u, s.heap.get? b = some u → h'.get? b = some u) : Inv X pins σ H { s with heap := h', toks := t' } := I.un (Un.kept k) (I.hok.kept k)
theorem Inv.laid {a : Addr} {o : HO} {t' : Nat} (I : Inv X pins σ H s) (k : ∀ b u, s.heap.get? b = some u → h'.get? b = some u) (hp : s.heap.objs.size ≤ a) (new : ObjOk X.prog X.w (upd H a o) h' a o) :
   Inv X pins σ (upd H a o) { s with heap := h', toks := t' } := I.un (Un.laid k hp (I.hok.fresh hp)) (I.hok.laid k hp new)
theorem Inv.write {x e : Addr} {o : HO} {t' : Nat} (I : Inv X pins σ H s) (mu : Mut (H x)) (he : e = x ∨ H e = some (.own x)) (k : ∀ b u, b ≠ e → s.heap.get? b = some u → h'.get? b = some u) (heo : ∃ u, h'.get? e = some u)
   (new : ObjOk X.prog X.w (upd H x o) h' x o) : Inv X pins σ (upd H x o) { s with heap := h', toks := t' } := I.un (Un.write mu he k heo) (I.hok.write mu he k heo new)
theorem Inv.weak {σ' : List (Option V)} (I : Inv X pins σ H s) (hl : σ'.length = σ.length) (w : ∀ (i : Nat) v, σ'[i]? = some (some v) → σ[i]? = some (some v)) : Inv X pins σ' H s :=
 ⟨I.ok, I.os, I.bare, I.base, let ⟨m, hn, hl'⟩ := I.loc; ⟨m, hn, fun i x v e1 e2 e3 => hl' i x v e1 (w i v e2) e3⟩, I.cell, I.free, I.freeC, I.pin, I.hok, hl.trans I.len⟩
theorem Inv.pins_of {pins' : List (Addr × Obj)} (I : Inv X pins σ H s) (h : ∀ p ∈ pins', s.heap.get? p.1 = some p.2 ∧ H p.1 = none ∧ p.1 ≠ X.env.locals ∧ p.1 ∉ X.fs ∧ ∀ v, p.2.data ≠ .cell v) : Inv X pins' σ H s :=
 ⟨I.ok, I.os, I.bare, I.base, I.loc, I.cell, I.free, I.freeC, fun p hp => (List.mem_append.mp hp).elim (fun z => I.pin p (List.mem_append_left _ z)) (h p), I.hok, I.len⟩
theorem nodup_ix {N : List Str} (hN : N.Nodup) {i j : Nat} {x : Str} (a : N[i]? = some x) (b : N[j]? = some x) : i = j := by
 obtain ⟨h1, e1⟩ := List.getElem?_eq_some_iff.mp a
 obtain ⟨h2, e2⟩ := List.getElem?_eq_some_iff.mp b
 exact (List.getElem_inj hN).mp (e1.trans e2.symm)
theorem store_ok2 {M : Model} {A : Around} {E : Value → Shared → Prop} {i : Nat} {x : Str} {v : V} {u : Value} {Q : Unit → Shared → Prop} (I : Inv X pins σ H s) (hN : X.N.Nodup) (hi : X.N[i]? = some x) (hx : Loc X.env.scope x) (r : RelV v u)
   (h : ∀ s', Inv X pins (σ.set i (some v)) H s' → (∃ a, Heap.SameBut a s.heap s'.heap ∧ (a = X.env.locals ∨ X.env.cells.lookup x = some a)) → Q () s') (hf : X.fn x = true ∨ X.env.scope.names.lookup x = some .local := by first | exact .inl rfl | exact .inr rfl | assumption) : wpAny M A (storeName X.env x u) Q E s := by
 obtain ⟨m, hn, hl⟩ := id I.loc
 have hcls : (X.env.scope.kind == .class || (X.env.scope.kind == .module && X.env.locals != X.env.globals)) = false := by rw [I.ok.kind]; rfl
 have hiσ : i < σ.length := by rw [I.len]; exact (List.getElem?_eq_some_iff.mp hi).1
 have cne := I.cne
 have tracked : ∀ {a : Addr} {h' : Heap}, (∃ o, s.heap.get? a = some o ∧ H a = none) → Heap.SameBut a s.heap h' → HOk X.prog X.w H h' := fun {a h'} ha hs b ob e => by
   obtain ⟨_, _, hfree⟩ := ha
   refine (I.hok b ob e).stay (fun c w' hc q => (hs.2 c ?_).trans q) (fun _ q => q) fun _ _ q => q
   rintro rfl
   rcases hc with rfl | hc
   · rw [hfree] at e; cases e
   · rw [hfree] at hc; cases hc
 rcases hx with hk | hk
 · refine wpAny_storeName_local hk hn (fun h' hn' hs => ?_) hcls
   obtain ⟨oL, _, _, hoL, _⟩ := id hn
   refine h _ ⟨I.ok, I.os, I.bare, ⟨fun b o e n hb hx => ?_, fun b o e n hb hx => ?_, I.base.free, fun b o e hx => ?_, I.base.tups, I.base.frzs, I.base.tbls⟩, ⟨_, hn', fun j y v' e1 e2 e3 => ?_⟩, fun y c e => ?_, I.free, I.freeC, fun p hp => ?_, tracked ⟨oL, hoL, I.free⟩ hs, by simpa using I.len⟩ ⟨_, hs, .inl rfl⟩
   · exact (hs.2 b (Nat.ne_of_lt (Nat.lt_of_lt_of_le (Heap.lt_size e) I.ok.above))).trans (I.base.keep b o e n hb hx)
   · obtain ⟨sl, e1⟩ := I.base.slot b o e n hb hx
     exact ⟨sl, (hs.2 b (Nat.ne_of_lt (Nat.lt_of_lt_of_le (Heap.lt_size e) I.ok.above))).trans e1⟩
   · obtain ⟨o', e1⟩ := I.base.there b o e hx
     exact ⟨o', (hs.2 b (Nat.ne_of_lt (Nat.lt_of_lt_of_le (Heap.lt_size e) I.ok.above))).trans e1⟩
   · by_cases hj : j = i
     · subst hj
       rw [hi] at e1; cases e1
       rw [List.getElem?_set_self hiσ] at e2
       cases e2
       exact ⟨u, r, .inl ⟨hk, by simp⟩⟩
     · rw [List.getElem?_set_ne (Ne.symm hj)] at e2
       obtain ⟨u', r', q⟩ := hl j y v' e1 e2 e3
       refine ⟨u', r', ?_⟩
       rcases q with ⟨k, e⟩ | ⟨k, c, e, z⟩
       · refine .inl ⟨k, ?_⟩
         have : y ≠ x := fun e => hj (nodup_ix hN e1 (e ▸ hi))
         simp [this, e]
       · exact .inr ⟨k, c, e, z.sameBut hs (cne y c e)⟩
   · obtain ⟨w', z⟩ := I.cell y c e
     exact ⟨w', z.sameBut hs (cne y c e)⟩
   · obtain ⟨e, n, ne, nf, d⟩ := I.pin p hp
     exact ⟨(hs.2 p.1 ne).trans e, n, ne, nf, d⟩
 · have hfn : X.fn x = true := by
     rcases hf with z | z
     · exact z
     · rw [z] at hk; cases hk
   obtain ⟨c, hc⟩ := I.ok.has x (.inl hk)
   obtain ⟨w', z⟩ := I.cell x c hc
   refine wpAny_storeName_cell I.ok.kind hk hc z (fun h' hc' hs => ?_)
   obtain ⟨oc, hoc, hocd⟩ := id z
   refine h { s with heap := h' } ⟨I.ok, I.os, I.bare, ⟨fun b o e n hb hx => ?_, fun b o e n hb hx => ?_, I.base.free, fun b o e hx => ?_, I.base.tups, I.base.frzs, I.base.tbls⟩, ⟨m, hn.sameBut hs (Ne.symm (cne x c hc)), fun j y v' e1 e2 e3 => ?_⟩, fun y c' e => ?_, I.free, I.freeC, fun p hp => ?_, tracked ⟨oc, hoc, I.freeC x c hc⟩ hs, by simpa using I.len⟩ ⟨c, hs, .inr hc⟩
   · exact (hs.2 b (Nat.ne_of_lt (Nat.lt_of_lt_of_le (Heap.lt_size e) (I.ok.cab x c hfn hc)))).trans (I.base.keep b o e n hb hx)
   · obtain ⟨sl, e1⟩ := I.base.slot b o e n hb hx
     exact ⟨sl, (hs.2 b (Nat.ne_of_lt (Nat.lt_of_lt_of_le (Heap.lt_size e) (I.ok.cab x c hfn hc)))).trans e1⟩
   · obtain ⟨o', e1⟩ := I.base.there b o e hx
     exact ⟨o', (hs.2 b (Nat.ne_of_lt (Nat.lt_of_lt_of_le (Heap.lt_size e) (I.ok.cab x c hfn hc)))).trans e1⟩
   · by_cases hj : j = i
     · subst hj
       rw [hi] at e1; cases e1
       rw [List.getElem?_set_self hiσ] at e2
       cases e2
       exact ⟨u, r, .inr ⟨.inl hk, c, hc, hc'⟩⟩
     · rw [List.getElem?_set_ne (Ne.symm hj)] at e2
       obtain ⟨u', r', q⟩ := hl j y v' e1 e2 e3
       refine ⟨u', r', ?_⟩
       rcases q with q | ⟨k, c', e, z'⟩
       · exact .inl q
       · refine .inr ⟨k, c', e, z'.sameBut hs ?_⟩
         rintro rfl
         exact hj (nodup_ix hN e1 (I.ok.inj _ _ _ e hc ▸ hi))
   · by_cases hcc : c' = c
     · subst hcc; exact ⟨_, hc'⟩
     · obtain ⟨w2, z2⟩ := I.cell y c' e
       exact ⟨w2, z2.sameBut hs hcc⟩
   · obtain ⟨e, n, ne, nf, d⟩ := I.pin p hp
     refine ⟨(hs.2 p.1 ?_).trans e, n, ne, nf, d⟩
     intro q
     rw [q, hoc] at e
     have q' : oc = p.2 := Option.some.inj e
     exact d w' (by rw [← q']; exact hocd)
theorem store_ok {M : Model} {A : Around} {E : Value → Shared → Prop} {i : Nat} {x : Str} {v : V} {u : Value} {Q : Unit → Shared → Prop} (I : Inv X pins σ H s) (hN : X.N.Nodup) (hi : X.N[i]? = some x) (hx : Loc X.env.scope x) (r : RelV v u)
   (h : ∀ s', Inv X pins (σ.set i (some v)) H s' → Q () s') (hf : X.fn x = true ∨ X.env.scope.names.lookup x = some .local := by first | exact .inl rfl | exact .inr rfl | assumption) : wpAny M A (storeName X.env x u) Q E s :=
 store_ok2 I hN hi hx r (fun s' I' _ => h s' I') hf
theorem Inv.call' {s' : Shared} {ch : List Addr} (I : Inv X pins σ H s) (ho : s'.os = s.os) (u : Un (frs X.stack) ch H H' s.heap s'.heap) (hok : HOk X.prog X.w H' s'.heap) (hg : AllBare s'.gens)
   (hch : ∀ b ∈ ch, (b ∈ X.ex ∨ X.s₀.heap.objs.size ≤ b) ∧ b ≠ X.env.locals ∧ (∀ x c, X.env.cells.lookup x = some c → c ≠ b) ∧ ∀ p ∈ X.pn ++ pins, p.1 ≠ b) : Inv X pins σ H' s' := by
 obtain ⟨h', g', d', t', o'⟩ := s'
 have e : o' = s.os := ho
 subst e
 exact I.call (g' := g') (t' := t') (d' := d') u hok hg hch
end
abbrev XK := Value → Option Addr → Hp → Prop
abbrev St := List (Option V)
abbrev VK := V → Hp → Prop
abbrev TE := St → Hp → VK → Prop
abbrev TT := St → Hp → (Bool → Hp → Prop) → Prop
abbrev TA := St → Hp → (List V → Hp → Prop) → Prop
structure Ends where
 nx : St → Hp → Prop
 rt : VK
 bk : St → Hp → Prop := fun _ _ => False
 ct : St → Hp → Prop := fun _ _ => False
abbrev TS := Ends → St → Hp → Prop
def EP (X : Cx) (pins : List (Addr × Obj)) (σ : St) (Q : VK) (u : Value) (s' : Shared) : Prop := ∃ v H', Inv X pins σ H' s' ∧ RelV v u ∧ Q v H'
def TP (X : Cx) (pins : List (Addr × Obj)) (σ : St) (Q : Bool → Hp → Prop) (b : Bool) (s' : Shared) : Prop := ∃ H', Inv X pins σ H' s' ∧ Q b H'
def AP (X : Cx) (pins : List (Addr × Obj)) (σ : St) (Q : List V → Hp → Prop) (us : List Value) (s' : Shared) : Prop := ∃ vs H', Inv X pins σ H' s' ∧ Vals vs us ∧ Q vs H'
def SP (X : Cx) (pins : List (Addr × Obj)) (D : Ends) (f : Flow) (s' : Shared) : Prop :=
 match f with
 | .next => ∃ σ' H', Inv X pins σ' H' s' ∧ D.nx σ' H'
 | .brk => ∃ σ' H', Inv X pins σ' H' s' ∧ D.bk σ' H'
 | .cont => ∃ σ' H', Inv X pins σ' H' s' ∧ D.ct σ' H'
 | .ret u => ∃ v σ' H', Inv X pins σ' H' s' ∧ RelV v u ∧ D.rt v H'
def PE (X : Cx) (e : Expr) (t : TE) : Prop :=
 ∀ (pins : List (Addr × Obj)) (s : Shared) (σ : St) (H : Hp) (Q : VK), Inv X pins σ H s → t σ H Q → wpAny (model X.prog X.w) X.A (eval e X.env) (EP X pins σ Q) X.xe s
def PT (X : Cx) (e : Expr) (t : TT) : Prop :=
 ∀ (pins : List (Addr × Obj)) (s : Shared) (σ : St) (H : Hp) (Q : Bool → Hp → Prop), Inv X pins σ H s → t σ H Q → wpAny (model X.prog X.w) X.A (isTrue e X.env (eval e X.env)) (TP X pins σ Q) X.xe s
def PW (X : Cx) (e : Expr) (t : TT) : Prop :=
 ∀ (whole : Sem Value) (pins : List (Addr × Obj)) (s : Shared) (σ : St) (H : Hp) (Q : Bool → Hp → Prop), Inv X pins σ H s → t σ H Q → wpAny (model X.prog X.w) X.A (isTrue e X.env whole) (TP X pins σ Q) X.xe s
theorem PW.pt {X : Cx} {e : Expr} {t : TT} (h : PW X e t) : PT X e t := h _
def PA (X : Cx) (es : List Expr) (t : TA) : Prop :=
 ∀ (pos : Pos) (pins : List (Addr × Obj)) (s : Shared) (σ : St) (H : Hp) (Q : List V → Hp → Prop), Inv X pins σ H s → t σ H Q → wpAny (model X.prog X.w) X.A (spliced (backTo pos (starEach es X.env))) (AP X pins σ Q) X.xe s
def PS (X : Cx) (st : Stmt) (t : TS) : Prop :=
 ∀ (pins : List (Addr × Obj)) (s : Shared) (σ : St) (H : Hp) (D : Ends), Inv X pins σ H s → t D σ H → wpAny (model X.prog X.w) X.A (exec st X.env) (SP X pins D) X.xe s
def PSs (X : Cx) (st : List Stmt) (t : TS) : Prop :=
 ∀ (pins : List (Addr × Obj)) (s : Shared) (σ : St) (H : Hp) (D : Ends), Inv X pins σ H s → t D σ H → wpAny (model X.prog X.w) X.A (execs st X.env) (SP X pins D) X.xe s
theorem thn {α : Type} {t : Sem α} {Q Q' : α → Shared → Prop} {M : Model} {A : Around} {E : Value → Shared → Prop} {s : Shared} (h : wpAny M A t Q E s) (hQ : ∀ a s, Q a s → Q' a s) : wpAny M A t Q' E s := wpAny_mono h hQ fun _ _ x => x
end L2
namespace L2
open PySem PySem.Spec PyProof.Rows
section
variable {X : Cx}
def tVar (i : Nat) : TE := fun σ H Q => ∃ v, σ[i]? = some (some v) ∧ Q v H
def tC (v : V) : TE := fun _ H Q => Q v H
theorem pe_var {i : Nat} {x : Str} {pos : Pos} (hN : X.N[i]? = some x) (hv : Vis X.env.scope x) (hd : (x == ("__debug__" : Str)) = false := by decide) (hcd : (x == ("__classdict__" : Str)) = false := by decide) : PE X (.Name x pos) (tVar i) := by
 intro pins s σ H Q I h
 obtain ⟨v, e, h⟩ := h
 obtain ⟨m, hn, hl⟩ := I.loc
 obtain ⟨u, r, l⟩ := hl i x v hN e hv
 have fin : EP X pins σ Q u s := ⟨v, H, I, r, h⟩
 rcases l with ⟨hk, hm⟩ | ⟨hk, c, hc, hcell⟩
 · exact wpAny_Name (wpAny_loadName_local I.ok.kind hk hn hm fin) hd
 · rcases hk with hk | hk
   · exact wpAny_Name (wpAny_loadName_cell I.ok.kind hk hc hcell fin) hd
   · exact wpAny_Name (wpAny_loadName_free I.ok.kind hk hc hcell fin hcd) hd
theorem zJ {i j pos} : PE X (.Constant (.int i) j pos) (tC (.int i)) := fun _ _ _ H _ I h => wpAny_Constant_int ⟨.int i, H, I.tok _, ⟨_, rfl⟩, h⟩
theorem pe_bl {b j pos} : PE X (.Constant (.bool b) j pos) (tC (.bl b)) := fun _ _ _ H _ I h => Constant_bool ⟨.bl b, H, I, rfl, h⟩
theorem pe_non {j pos} : PE X (.Constant .none j pos) (tC .non) := fun _ _ _ H _ I h => Constant_none ⟨.non, H, I, rfl, h⟩
theorem zP {x j pos} : PE X (.Constant (.str x) j pos) (tC (.str x)) := fun _ _ _ H _ I h => Calls.Constant_str ⟨.str x, H, I.tok _, ⟨_, rfl⟩, h⟩
def Gl (X : Cx) (x : Str) : Prop := X.env.kindOf x = some .globalImplicit
theorem xO {E : Value → Shared → Prop} {pins : List (Addr × Obj)} {s : Shared} {σ : St} {H : Hp} {x : Str} {u : Value} {pos : Pos} {Q : Value → Shared → Prop} (I : Inv X pins σ H s) (hg : Gl X x) (hm : X.mg x = some u) (h : Q u s)
   (hd : (x == ("__debug__" : Str)) = false := by decide) : wpAny (model X.prog X.w) X.A (eval (.Name x pos) X.env) Q E s :=
 Calls.Name_function_global I.ok.kind hg (Calls.loadGlobal_global (by rw [I.ok.glob]; exact I.mod.glob.keeps I.bk) hm h) hd
theorem ld_blt {E : Value → Shared → Prop} {pins : List (Addr × Obj)} {s : Shared} {σ : St} {H : Hp} {x : Str} {u : Value} {pos : Pos} {Q : Value → Shared → Prop} (I : Inv X pins σ H s) (hg : Gl X x) (hm : X.mg x = none) (hv : bootBuiltins x = some u) (h : Q u s)
   (hn : x ≠ "__name__" := by decide) (hd : (x == ("__debug__" : Str)) = false := by decide) : wpAny (model X.prog X.w) X.A (eval (.Name x pos) X.env) Q E s := by
 obtain ⟨mb, h1, h2⟩ := I.mod.blt
 exact Calls.Name_function_global I.ok.kind hg (Calls.loadGlobal_builtin (by rw [I.ok.glob]; exact I.mod.glob.keeps I.bk) hm (by rw [I.ok.blt]; exact h1.keeps I.bk) ((h2 x hn).trans hv) h) hd
theorem pe_glob {x : Str} {v : V} {u : Value} {pos : Pos} (hg : Gl X x) (hm : X.mg x = some u) (r : RelV v u) (hd : (x == ("__debug__" : Str)) = false := by decide) : PE X (.Name x pos) (tC v) :=
 fun _ _ _ H _ I h => xO I hg hm ⟨v, H, I, r, h⟩ hd
theorem pe_bltn {x : Str} {v : V} {u : Value} {pos : Pos} (hg : Gl X x) (hm : X.mg x = none) (hv : bootBuiltins x = some u) (r : RelV v u) (hn : x ≠ "__name__" := by decide) (hd : (x == ("__debug__" : Str)) = false := by decide) : PE X (.Name x pos) (tC v) :=
 fun _ _ _ H _ I h => ld_blt I hg hm hv ⟨v, H, I, r, h⟩ hn hd
variable {a b : Expr} {ta tb : TE} {pos : Pos}
def PC (X : Cx) (op : CmpOp) (a b : Expr) (t : TE) : Prop :=
 ∀ (pins : List (Addr × Obj)) (s : Shared) (σ : St) (H : Hp) (Q : VK), Inv X pins σ H s → t σ H Q →
   wpAny (model X.prog X.w) X.A (eval a X.env) (fun v s₁ => wpAny (model X.prog X.w) X.A (eval b X.env) (fun u s₂ => wpAny (model X.prog X.w) X.A (compareOp op v u) (EP X pins σ Q) X.xe s₂) X.xe s₁) X.xe s
def tB (t : TE) : TT := fun σ H Q => t σ H fun x H1 => ∃ c, x = .bl c ∧ Q c H1
theorem yY {e : Expr} {t : TE} (h : PE X e t) (he : ∀ whole, isTrue e X.env whole = (do let v ← whole; standAt e.pos; holding [v] (truthy v)) := by intro _; rfl) : PT X e (tB t) := by
 intro pins s σ H Q I hw
 refine isTrue_plain (thn (h pins s σ H _ I hw) fun v s1 ⟨x, H1, I1, r1, q1⟩ => ?_) (he _)
 obtain ⟨d, rfl, q⟩ := q1
 cases r1
 exact wpAny_truthy_bool ⟨H1, I1, q⟩
variable {tA tB' : TT} {rest : List Expr}
def tAnd (t u : TT) : TT := fun σ H Q => t σ H fun c H1 => if c = true then u σ H1 Q else Q false H1
def tNot (t : TT) : TT := fun σ H Q => t σ H fun c H1 => Q (!c) H1
theorem pw_and1 (ha : PT X a tA) : PW X (.BoolOp .And [a] pos) tA := by
 intro wh pins s σ H Q I h
 refine isTrue_and (thn (ha pins s σ H Q I h) fun c s1 e => ?_)
 cases c with
 | true => exact isTrue_and_nil e
 | false => exact e
theorem pw_and (ha : PT X a tA) (hb : PW X (.BoolOp .And (b :: rest) pos) tB') : PW X (.BoolOp .And (a :: b :: rest) pos) (tAnd tA tB') := by
 intro wh pins s σ H Q I h
 refine isTrue_and (thn (ha pins s σ H _ I h) fun c s1 ⟨H1, I1, q1⟩ => ?_)
 cases c with
 | true => exact hb wh pins s1 σ H1 Q I1 q1
 | false => exact ⟨H1, I1, q1⟩
theorem pt_not (ha : PT X a tA) : PT X (.UnaryOp .Not a pos) (tNot tA) := by
 intro pins s σ H Q I h
 exact isTrue_not (ha pins s σ H (fun c H1 => Q (!c) H1) I h)
def tAndV (ta tb : TE) : TE := fun σ H Q => ta σ H fun x H1 => ∃ c, x = .bl c ∧ if c = true then tb σ H1 Q else Q (.bl false) H1
def tOrV (ta tb : TE) : TE := fun σ H Q => ta σ H fun x H1 => ∃ c, x = .bl c ∧ if c = true then Q (.bl true) H1 else tb σ H1 Q
def tNotV (ta : TE) : TE := fun σ H Q => ta σ H fun x H1 => ∃ c, x = .bl c ∧ Q (.bl (!c)) H1
theorem pe_one {op} {t : TE} (h : PE X a t) : PE X (.BoolOp op [a] pos) t := fun pins s σ H Q I hw => BoolOp_one (h pins s σ H Q I hw)
theorem pe_and (ha : PE X a ta) (hb : PE X (.BoolOp .And (b :: rest) pos) tb) : PE X (.BoolOp .And (a :: b :: rest) pos) (tAndV ta tb) := by
 intro pins s σ H Q I h
 refine BoolOp_and (thn (ha pins s σ H _ I h) fun v s1 ⟨x, H1, I1, r1, q1⟩ => ?_)
 obtain ⟨c, rfl, q1⟩ := q1
 cases r1
 refine wpAny_truthy_bool ?_
 cases c with
 | true => exact hb pins s1 σ H1 Q I1 q1
 | false => exact ⟨.bl false, H1, I1, rfl, q1⟩
theorem pe_or (ha : PE X a ta) (hb : PE X (.BoolOp .Or (b :: rest) pos) tb) : PE X (.BoolOp .Or (a :: b :: rest) pos) (tOrV ta tb) := by
 intro pins s σ H Q I h
 refine BoolOp_or (thn (ha pins s σ H _ I h) fun v s1 ⟨x, H1, I1, r1, q1⟩ => ?_)
 obtain ⟨c, rfl, q1⟩ := q1
 cases r1
 refine wpAny_truthy_bool ?_
 cases c with
 | false => exact hb pins s1 σ H1 Q I1 q1
 | true => exact ⟨.bl true, H1, I1, rfl, q1⟩
theorem pe_not (ha : PE X a ta) : PE X (.UnaryOp .Not a pos) (tNotV ta) := by
 intro pins s σ H Q I h
 refine UnaryOp_ (thn (ha pins s σ H _ I h) fun v s1 ⟨x, H1, I1, r1, q1⟩ => ?_)
 obtain ⟨c, rfl, q1⟩ := q1
 cases r1
 exact not_of (wpAny_truthy_bool ⟨.bl (!c), H1, I1, rfl, q1⟩)
def tIf (t : TT) (ta tb : TE) : TE := fun σ H Q => t σ H fun c H1 => if c = true then ta σ H1 Q else tb σ H1 Q
theorem pe_ifExp {c : Expr} (hc : PT X c tA) (ha : PE X a ta) (hb : PE X b tb) : PE X (.IfExp c a b pos) (tIf tA ta tb) := by
 intro pins s σ H Q I h
 refine wpAny_IfExp (thn (hc pins s σ H _ I h) fun d s1 ⟨H1, I1, q1⟩ => ?_)
 cases d with
 | true => exact ha pins s1 σ H1 Q I1 q1
 | false => exact hb pins s1 σ H1 Q I1 q1
end
end L2
namespace L2
open PySem PySem.Spec PyProof.Rows
def SqL (K : PySem.W.Frag) (H : Hp) (a : Addr) (xs : List V) : Prop :=
 Rd H a (.lst xs) ∨
   ∃ (o : Obj) (its : Array Value) (n : Nat), K.lookup a = some o ∧ o.cls = .type "list" ∧ o.dict = none ∧ o.data = .seq its n ∧ its.size ≤ sizeLine ∧ Vals xs its.toList
def SqT (K : PySem.W.Frag) (H : Hp) (a : Addr) (xs : List V) : Prop :=
 Rd H a (.tup xs) ∨
   ∃ (o : Obj) (its : Array Value) (n : Nat), K.lookup a = some o ∧ o.cls = .type "tuple" ∧ o.data = .seq its n ∧ its.size ≤ sizeLine ∧ Vals xs its.toList
def absV : Value → Option V
 | .none => some .non
 | .bool b => some (.bl b)
 | .int i _ => some (.int i)
 | .str x _ => some (.str x)
 | .bytes b _ => some (.byt b)
 | .float b _ => some (.flt b)
 | .ref a => some (.ref a)
 | .type n => some (.ty n)
 | _ => none
theorem RelV.abs {x : V} {u : Value} (r : RelV x u) : absV u = some x := by
 cases x with
 | non => cases r; rfl
 | bl _ => cases r; rfl
 | int _ => obtain ⟨t, rfl⟩ := r; rfl
 | str _ => obtain ⟨t, rfl⟩ := r; rfl
 | byt _ => obtain ⟨t, rfl⟩ := r; rfl
 | flt _ => obtain ⟨t, rfl⟩ := r; rfl
 | ref _ => cases r; rfl
 | ty _ => cases r; rfl
theorem RelV.inj {x y : V} {u : Value} (r : RelV x u) (q : RelV y u) : x = y := Option.some.inj (r.abs.symm.trans q.abs)
theorem Vals.inj : ∀ {xs ys : List V} {us : List Value}, Vals xs us → Vals ys us → xs = ys
 | _, _, _, .nil, .nil => rfl
 | _, _, _, .cons r t, .cons r' t' => by rw [r.inj r', Vals.inj t t']
section
variable {X : Cx} {pins : List (Addr × Obj)} {σ : St} {H : Hp} {s : Shared} {a : Addr} {xs ys : List V}
theorem SqL.of {K : PySem.W.Frag} (h : H a = some (.lst xs)) : SqL K H a xs := .inl (.inl h)
theorem SqT.of {K : PySem.W.Frag} (h : H a = some (.tup xs)) : SqT K H a xs := .inl (.inl h)
theorem Inv.list (I : Inv X pins σ H s) (h : SqL X.K H a xs) : ∃ its : List Value, Vals xs its ∧ PlainL s.heap a its.toArray ∧ xs.length ≤ sizeLine := by
 rcases h with h | ⟨o, its, n, hk, hc, hd, hs, hz, r⟩
 · obtain ⟨z, its, n, r, e⟩ := h.ok I.hok
   exact ⟨its, r, ⟨_, n, e, rfl, rfl, rfl⟩, z⟩
 · refine ⟨its.toList, r, ⟨o, n, I.kIn a o hk, hc, hd, by simpa using hs⟩, ?_⟩
   have e := r.length
   simp only [Array.length_toList] at e
   omega
theorem Inv.tuple (I : Inv X pins σ H s) (h : SqT X.K H a xs) : ∃ its : List Value, Vals xs its ∧ IsTup s.heap a its.toArray ∧ xs.length ≤ sizeLine := by
 rcases h with h | ⟨o, its, n, hk, hc, hs, hz, r⟩
 · obtain ⟨z, its, r, p⟩ := h.ok I.hok
   exact ⟨its, r, p, z⟩
 · refine ⟨its.toList, r, ⟨o, I.kIn a o hk, hc, n, by simpa using hs⟩, ?_⟩
   have e := r.length
   simp only [Array.length_toList] at e
   omega
theorem Inv.list_inj (I : Inv X pins σ H s) (h : SqL X.K H a xs) (h' : SqL X.K H a ys) : xs = ys := by
 obtain ⟨its, r, ⟨o, n, e, _, _, d⟩, _⟩ := I.list h
 obtain ⟨its', r', ⟨o', n', e', _, _, d'⟩, _⟩ := I.list h'
 rw [e] at e'; cases e'
 rw [d] at d'
 injection d' with d1 _
 have : its = its' := by simpa using congrArg Array.toList d1
 subst this
 exact r.inj r'
end
abbrev Cx.wish (X : Cx) (E : Value → Shared → Prop) : Cx := { X with xe := E }
abbrev Cx.nox (X : Cx) : Cx := X.wish fun _ _ => False
theorem Cx.Ok.wish {X : Cx} (ok : X.Ok) (E : Value → Shared → Prop) : (X.wish E).Ok :=
 ⟨ok.mod, ok.kind, ok.glob, ok.blt, ok.above, ok.inj, ok.has, ok.cab, ok.hd, ok.frames, ok.stk, ok.exf, ok.bs, ok.bsz, ok.noex, ok.exfs, ok.funs, ok.frf⟩
theorem Cx.Ok.unwish {X : Cx} {E : Value → Shared → Prop} (ok : (X.wish E).Ok) : X.Ok :=
 ⟨ok.mod, ok.kind, ok.glob, ok.blt, ok.above, ok.inj, ok.has, ok.cab, ok.hd, ok.frames, ok.stk, ok.exf, ok.bs, ok.bsz, ok.noex, ok.exfs, ok.funs, ok.frf⟩
section
variable {X : Cx} {pins : List (Addr × Obj)} {σ : St} {H : Hp} {s : Shared} {E : Value → Shared → Prop}
theorem Inv.wish (I : Inv X pins σ H s) (E : Value → Shared → Prop) : Inv (X.wish E) pins σ H s := ⟨I.ok.wish E, I.os, I.bare, I.base, I.loc, I.cell, I.free, I.freeC, I.pin, I.hok, I.len⟩
theorem Inv.unwish (I : Inv (X.wish E) pins σ H s) : Inv X pins σ H s := ⟨I.ok.unwish, I.os, I.bare, I.base, I.loc, I.cell, I.free, I.freeC, I.pin, I.hok, I.len⟩
theorem SP.unwish {D : Ends} {f : Flow} {s' : Shared} (h : SP (X.wish E) pins D f s') : SP X pins D f s' := by
 cases f with
 | next => obtain ⟨σ', H', I, q⟩ := h; exact ⟨σ', H', I.unwish, q⟩
 | brk => obtain ⟨σ', H', I, q⟩ := h; exact ⟨σ', H', I.unwish, q⟩
 | cont => obtain ⟨σ', H', I, q⟩ := h; exact ⟨σ', H', I.unwish, q⟩
 | ret u => obtain ⟨v, σ', H', I, r, q⟩ := h; exact ⟨v, σ', H', I.unwish, r, q⟩
theorem PE.nox {e : Expr} {t : TE} (h : PE X.nox e t) : PE X e t := fun pins s σ H Q I hw =>
 wpAny_mono (h pins s σ H Q (I.wish _) hw) (fun _ _ ⟨v, H', I', r, q⟩ => ⟨v, H', I'.unwish, r, q⟩) fun _ _ z => False.elim z
theorem PT.nox {e : Expr} {t : TT} (h : PT X.nox e t) : PT X e t := fun pins s σ H Q I hw =>
 wpAny_mono (h pins s σ H Q (I.wish _) hw) (fun _ _ ⟨H', I', q⟩ => ⟨H', I'.unwish, q⟩) fun _ _ z => False.elim z
theorem PSs.nox {st : List Stmt} {t : TS} (h : PSs X.nox st t) : PSs X st t := fun pins s σ H D I hw =>
 wpAny_mono (h pins s σ H D (I.wish _) hw) (fun _ _ q => q.unwish) fun _ _ z => False.elim z
end
section
variable {X : Cx} {st : Stmt} {rest : List Stmt} {t u : TS} {e : Expr} {te : TE} {pos : Pos}
def tNext : TS := fun D σ H => D.nx σ H
def tSeq (t u : TS) : TS := fun D σ H => t { D with nx := u D } σ H
theorem zW : PSs X [] tNext := fun _ _ σ H _ I h => wpAny_execs_nil ⟨σ, H, I, h⟩
theorem zF (h1 : PS X st t) (h2 : PSs X rest u) : PSs X (st :: rest) (tSeq t u) := by
 intro pins s σ H D I h
 refine wpAny_execs_cons (thn (h1 pins s σ H { D with nx := u D } I h) fun f s1 q => ?_)
 cases f with
 | next =>
   obtain ⟨σ', H', I', q⟩ := q
   exact h2 pins s1 σ' H' D I' q
 | ret v => exact q
 | brk => exact q
 | cont => exact q
theorem zH (h1 : PS X st t) : PSs X [st] t := by
 intro pins s σ H D I h
 refine wpAny_execs_cons (thn (h1 pins s σ H D I h) fun f s1 q => ?_)
 cases f with
 | next => exact wpAny_execs_nil q
 | ret v => exact q
 | brk => exact q
 | cont => exact q
theorem Inv.quiet {pins : List (Addr × Obj)} {σ : St} {H : Hp} {s : Shared} (I : Inv X pins σ H s) : interactive X.env = false := by simp [interactive, I.ok.kind]
def tDrop (te : TE) : TS := fun D σ H => te σ H fun _ H1 => D.nx σ H1
theorem yI (he : PE X e te) (hs : swapsWith e none pos.line X.env = pure false := by rfl) : PS X (.Expr e pos) (tDrop te) := by
 intro pins s σ H D I h
 exact wpAny_Expr_any (thn (he pins s σ H _ I h) fun v s1 ⟨x, H1, I1, r1, q1⟩ => ⟨σ, H1, I1, q1⟩) I.quiet hs
def tRet (te : TE) : TS := fun D σ H => te σ H D.rt
theorem zY (he : PE X e te) : PS X (.Return (some e) pos) (tRet te) := by
 intro pins s σ H D I h
 exact wpAny_Return_some (thn (he pins s σ H _ I h) fun v s1 ⟨x, H1, I1, r1, q1⟩ => ⟨x, σ, H1, I1, r1, q1⟩)
def tRetN : TS := fun D _ H => D.rt .non H
theorem ps_retN : PS X (.Return none pos) tRetN := fun _ _ σ H _ I h => wpAny_Return_none ⟨.non, σ, H, I, rfl, h⟩
def tIfS (c : TT) (t u : TS) : TS := fun D σ H => c σ H fun b H1 => if b = true then t D σ H1 else u D σ H1
theorem yN {c : Expr} {a b : List Stmt} {tc : TT} (hc : PT X c tc) (ha : PSs X a t) (hb : PSs X b u) : PS X (.If c a b pos) (tIfS tc t u) := by
 intro pins s σ H D I h
 refine wpAny_If (thn (hc pins s σ H _ I h) fun d s1 ⟨H1, I1, q1⟩ => ?_)
 cases d with
 | true => exact ha pins s1 σ H1 D I1 q1
 | false => exact hb pins s1 σ H1 D I1 q1
end
abbrev TG := V → St → Hp → (St → Hp → Prop) → Prop
abbrev TGs := List V → St → Hp → (St → Hp → Prop) → Prop
def PG (X : Cx) (target : Expr) (t : TG) : Prop :=
 ∀ (pins : List (Addr × Obj)) (s : Shared) (σ : St) (H : Hp) (v : V) (u : Value) (Q : St → Hp → Prop), Inv X pins σ H s → RelV v u → t v σ H Q →
   wpAny (model X.prog X.w) X.A (assign target X.env u) (fun _ s' => ∃ σ' H', Inv X pins σ' H' s' ∧ Q σ' H') X.xe s
def PGs (X : Cx) (ts : List Expr) (t : TGs) : Prop :=
 ∀ (pins : List (Addr × Obj)) (s : Shared) (σ : St) (H : Hp) (vs : List V) (us : List Value) (Q : St → Hp → Prop), Inv X pins σ H s → Vals vs us → t vs σ H Q →
   wpAny (model X.prog X.w) X.A (assignInOrder ((assignEach ts X.env).map (·.2)) us) (fun _ s' => ∃ σ' H', Inv X pins σ' H' s' ∧ Q σ' H') X.xe s
abbrev TSet := V → V → V → Hp → (Hp → Prop) → Prop
def PSet (X : Cx) (t : TSet) : Prop :=
 ∀ (pins : List (Addr × Obj)) (s : Shared) (σ : St) (H : Hp) (o i v : V) (ov iv u : Value) (Q : Hp → Prop), Inv X pins σ H s → RelV o ov → RelV i iv → RelV v u → t o i v H Q →
   wpAny (model X.prog X.w) X.A (setItem ov iv u) (fun _ s' => ∃ H', Inv X pins σ H' s' ∧ Q H') X.xe s
section
variable {X : Cx} {pos : Pos}
def gName (i : Nat) : TG := fun v σ H Q => Q (σ.set i (some v)) H
theorem zS {i : Nat} {x : Str} (hN : X.N.Nodup) (hi : X.N[i]? = some x) (hx : Loc X.env.scope x) (hf : X.fn x = true ∨ X.env.scope.names.lookup x = some .local := by first | exact .inl rfl | exact .inr rfl | assumption) : PG X (.Name x pos) (gName i) := by
 intro pins s σ H v u Q I r h
 exact wpAny_assign_Name (store_ok I hN hi hx r (fun s' I' => ⟨_, H, I', h⟩) hf)
def gNil : TGs := fun vs σ H Q => vs = [] ∧ Q σ H
def gCons (t : TG) (u : TGs) : TGs := fun vs σ H Q => ∃ v r, vs = v :: r ∧ t v σ H fun σ' H' => u r σ' H' Q
theorem xI : PGs X [] gNil := by
 intro pins s σ H vs us Q I r h
 obtain ⟨e, h⟩ := h
 subst e
 cases r
 exact assignInOrder_nil ⟨σ, H, I, h⟩
theorem yD {e : Expr} {es : List Expr} {t : TG} {u : TGs} (h1 : PG X e t) (h2 : PGs X es u)
   (hs : (assignEach (e :: es) X.env).map (·.2) = assign e X.env :: (assignEach es X.env).map (·.2) := by rfl) : PGs X (e :: es) (gCons t u) := by
 intro pins s σ H vs us Q I r h
 obtain ⟨v, vr, e1, h⟩ := h
 subst e1
 cases r with
 | cons r rr =>
   rw [hs]
   refine assignInOrder_cons (thn (h1 pins s σ H _ _ _ I r h) fun _ s1 ⟨σ1, H1, I1, q1⟩ => ?_)
   exact h2 pins s1 σ1 H1 _ _ Q I1 rr q1
def gTup (K : PySem.W.Frag) (n : Nat) (t : TGs) : TG := fun v σ H Q => ∃ a xs, v = .ref a ∧ SqT K H a xs ∧ xs.length = n ∧ t xs σ H Q
theorem pg_tup {es : List Expr} {k : Nat} {t : TGs} {n : Nat} (hc : X.calm = true) (h : PGs X es t)
   (hn : (assignEach es X.env).length = n := by rfl) (hst : (assignEach es X.env).findIdx? (·.1) = none := by rfl) : PG X (.Tuple es k pos) (gTup X.K n t) := by
 intro pins s σ H v u Q I r hw
 obtain ⟨a, xs, e1, hq, hl, hw⟩ := hw
 subst e1
 cases r
 obtain ⟨its, rv, ht, hz⟩ := I.tuple hq
 refine assign_Tuple_tuple (I.ok.hd hc) ht (by simp [hn, ← hl, rv.length]) hst fun h' hx => ?_
 have I1 : Inv X pins σ H { s with heap := h' } := I.kept (t' := s.toks) fun b o e => hx b o (Nat.ne_of_lt (Heap.lt_size e)) e
 exact h pins _ σ H xs _ Q I1 (by simpa using rv) hw
def tAsg (te : TE) (g : TG) : TS := fun D σ H => te σ H fun x H1 => g x σ H1 D.nx
theorem ps_asg {tg e : Expr} {te : TE} {g : TG} (he : PE X e te) (hg : PG X tg g) (hs : swapsWithSole [tg] e pos.line X.env = pure false := by rfl) (hw : swappedStores [tg] e X.env = pure none := by rfl)
   (h1 : (assignEach [tg] X.env).map (·.2) = [assign tg X.env] := by rfl) : PS X (.Assign [tg] e pos) (tAsg te g) := by
 intro pins s σ H D I h
 refine wpAny_Assign_stores (thn (he pins s σ H _ I h) fun v s1 ⟨x, H1, I1, r1, q1⟩ => ?_) hs hw
 rw [h1]
 exact thn (hg pins s1 σ H1 x v _ I1 r1 q1) fun _ s2 q => q
theorem zX {i : Nat} {x : Str} {e : Expr} {te : TE} {pos' : Pos} (hN : X.N.Nodup) (hi : X.N[i]? = some x) (hx : Loc X.env.scope x) (he : PE X e te) (hs : swapsWith e (some (.Name x pos')) pos.line X.env = pure false := by rfl) (hf : X.fn x = true ∨ X.env.scope.names.lookup x = some .local := by first | exact .inl rfl | exact .inr rfl | assumption) :
   PS X (.Assign [.Name x pos'] e pos) (tAsg te (gName i)) := by
 intro pins s σ H D I h
 refine wpAny_Assign_Name (thn (he pins s σ H _ I h) fun v s1 ⟨y, H1, I1, r1, q1⟩ => ?_) hs
 exact store_ok I1 hN hi hx r1 (fun s2 I2 => ⟨_, H1, I2, q1⟩) hf
end
section
variable {X : Cx} {pos : Pos}
def tWhile (c : TT) (tb : TS) : TS := fun D σ H => ∃ W : Nat → St → Hp → Prop, (∃ m, W m σ H) ∧ ∀ m σ H, W m σ H →
 c σ H fun b H1 => if b = true then ∃ N : St → Hp → Prop, (∀ σ' H', N σ' H' → ∃ m', m' < m ∧ W m' σ' H') ∧ tb { D with nx := N, ct := N, bk := D.nx } σ H1 else D.nx σ H1
theorem ps_while {c : Expr} {body : List Stmt} {tc : TT} {tb : TS} (hp : PassesOwn (model X.prog X.w) X.A X.env X.xe) (hc : PT X c tc) (hb : PSs X body tb) : PS X (.While c body [] pos) (tWhile tc tb) := by
 intro pins s σ H D I h
 obtain ⟨W, ⟨m0, w0⟩, turn⟩ := h
 refine wpAny_While (codeAny_whileLoop (fun n s' => ∃ σ' H', Inv X pins σ' H' s' ∧ W n σ' H') ?_ m0 ⟨σ, H, I, w0⟩)
 rintro n s1 ⟨σ1, H1, I1, w1⟩
 refine wpAny_passesOwn hp (thn (hc pins s1 σ1 H1 _ I1 (turn n σ1 H1 w1)) fun b s2 ⟨H2, I2, q2⟩ => ?_)
 cases b with
 | true =>
   obtain ⟨N, hN, q2⟩ := q2
   rw [if_pos rfl]
   refine wpAny_passesOwn hp (thn (hb pins s2 σ1 H2 _ I2 q2) fun f s3 q3 => ?_)
   cases f with
   | next =>
     obtain ⟨σ3, H3, I3, n3⟩ := q3
     obtain ⟨m', hm, w3⟩ := hN σ3 H3 n3
     exact ⟨m', hm, σ3, H3, I3, w3⟩
   | cont =>
     obtain ⟨σ3, H3, I3, n3⟩ := q3
     obtain ⟨m', hm, w3⟩ := hN σ3 H3 n3
     exact ⟨m', hm, σ3, H3, I3, w3⟩
   | brk => exact q3
   | ret v => exact q3
 | false =>
   rw [if_neg Bool.false_ne_true]
   exact wpAny_execs_nil ⟨σ1, H2, I2, q2⟩
end
structure It where
 go : Nat → Hp → Prop
 yld : Nat → Hp → V → Hp → Prop
 stop : Nat → Hp → Prop
def FpOk (X : Cx) (pins : List (Addr × Obj)) (H : Hp) (b : Addr) : Prop :=
 H b = none ∧ b ≠ X.env.locals ∧ b ∉ X.fs ∧ (b ∈ X.ex ∨ X.s₀.heap.objs.size ≤ b) ∧ (∀ x c, X.env.cells.lookup x = some c → c ≠ b) ∧ ∀ p ∈ X.pn ++ pins, p.1 ≠ b
theorem Inv.fpOk {X : Cx} {pins : List (Addr × Obj)} {σ : St} {H H' : Hp} {s : Shared} {b : Addr} (I : Inv X pins σ H s) (hb : s.heap.objs.size ≤ b) (hn : H' b = none) : FpOk X pins H' b := by
 refine ⟨hn, Nat.ne_of_gt (Nat.lt_of_lt_of_le I.lt hb), I.nofs hb, .inr (Nat.le_trans I.sz hb), fun x c e z => ?_, fun p hp z => ?_⟩
 · obtain ⟨v, q⟩ := I.cell x c e
   exact absurd (Nat.lt_of_lt_of_le q.lt (by rw [z]; exact hb)) (Nat.lt_irrefl _)
 · exact absurd (Nat.lt_of_lt_of_le (Heap.lt_size (I.pin p hp).1) (by rw [z]; exact hb)) (Nat.lt_irrefl _)
structure Turn (P : Program) (w : World) (K : PySem.W.Frag) (tg : Expr) (J : It) (fp : List Addr) (it : Addr) (tn : Nat → Heap → Prop) : Prop where
 mem : it ∈ fp
 obj : ∀ i h, tn i h → ∀ b ∈ fp, ∃ o, h.get? b = some o ∧ ∀ v, o.data ≠ .cell v
 keep : ∀ i h h', tn i h → (∀ b ∈ fp, ∀ o, h.get? b = some o → h'.get? b = some o) → tn i h'
 item : ∀ (X : Cx), X.prog = P → X.w = w → X.K = K → X.calm = true → ∀ (i : Nat) (pins : List (Addr × Obj)) (s : Shared) (σ : St) (H : Hp) (E : Value → Shared → Prop), Inv X pins σ H s → (∀ b ∈ fp, FpOk X pins H b) → tn i s.heap → J.go i H →
   wpAny (model P w) X.A (pyNext (.ref it)) (fun r s1 => ∃ u, r = some u ∧
     wpAny (model P w) X.A (letOwnedTupleGo tg (.ref it) u) (fun _ s2 => ∃ x H', Inv X pins σ H' s2 ∧ RelV x u ∧ J.yld i H x H' ∧ tn (i + 1) s2.heap ∧ ∀ b ∈ fp, H' b = none) E s1) E s
 done : ∀ (X : Cx), X.prog = P → X.w = w → X.K = K → X.calm = true → ∀ (i : Nat) (pins : List (Addr × Obj)) (s : Shared) (σ : St) (H : Hp) (E : Value → Shared → Prop), Inv X pins σ H s → (∀ b ∈ fp, FpOk X pins H b) → tn i s.heap → J.stop i H →
   wpAny (model P w) X.A (pyNext (.ref it)) (fun r s1 => r = none ∧ Inv X pins σ H s1) E s
 self : ∀ (A : Around) (i : Nat) (s : Shared) (Q : Value → Shared → Prop) (E : Value → Shared → Prop), tn i s.heap → Q (.ref it) s → wpAny (model P w) A (pyIter (.ref it)) Q E s
abbrev TI := St → Hp → (It → Hp → Prop) → Prop
def PIE (X : Cx) (pins : List (Addr × Obj)) (σ : St) (tg : Expr) (R : It → Hp → Prop) (itv : Value) (s2 : Shared) : Prop :=
 ∃ (it : Addr) (fp : List Addr) (tn : Nat → Heap → Prop) (J : It) (H' : Hp), itv = .ref it ∧ Inv X pins σ H' s2 ∧ Turn X.prog X.w X.K tg J fp it tn ∧ tn 0 s2.heap ∧ (∀ b ∈ fp, FpOk X pins H' b) ∧ R J H'
def PI (X : Cx) (tg iter : Expr) (wi : TI) : Prop :=
 ∀ (pins : List (Addr × Obj)) (s : Shared) (σ : St) (H : Hp) (R : It → Hp → Prop), Inv X pins σ H s → wi σ H R →
   wpAny (model X.prog X.w) X.A (eval iter X.env) (fun v s1 => wpAny (model X.prog X.w) X.A (pyIter v) (PIE X pins σ tg R) X.xe s1) X.xe s
theorem go_of {M : Model} {A : Around} {E : Value → Shared → Prop} {s : Shared} {tg : Expr} {it : Addr} {u : Value} {o : Obj} {n : String} {vs : Array Value} {Q : Unit → Shared → Prop} (ho : s.heap.get? it = some o) (hc : o.cls = .type n) (hd : o.data = .fields vs)
   (hn : ["enumerate", "zip", "dict_itemiterator", "dict_reverseitemiterator", "odict_iterator", "itertools.zip_longest", "itertools.pairwise"].contains n = false) (hQ : Q () s) : wpAny M A (letOwnedTupleGo tg (.ref it) u) Q E s := by
 unfold letOwnedTupleGo
 cases tg <;> first
   | exact wpAny_pure hQ
   | (cases u <;> first
       | exact wpAny_pure hQ
       | (refine wpAny_bind (wpAny_load ho ?_)
          rw [hc, hd]
          show wpAny M A (if (["enumerate", "zip", "dict_itemiterator", "dict_reverseitemiterator", "odict_iterator", "itertools.zip_longest", "itertools.pairwise"].contains n && vs[0]? == some (rawInt _)) = true then _ else _) Q E s
          rw [if_neg (by intro h; rw [hn, Bool.false_and] at h; cases h)]
          exact wpAny_pure hQ))
def Itl (K : PySem.W.Frag) (a : Addr) : It :=
 ⟨fun i H => ∃ xs x, SqL K H a xs ∧ xs[i]? = some x, fun i H x H' => H' = H ∧ ∀ xs, SqL K H a xs → xs[i]? = some x, fun i H => ∃ xs, SqL K H a xs ∧ xs.length ≤ i⟩
def Itr (lo : Int) (n : Nat) : It := ⟨fun i _ => i < n, fun i H x H' => H' = H ∧ x = .int (lo + i), fun i _ => n ≤ i⟩
theorem turn_list {P : Program} {w : World} {K : PySem.W.Frag} {tg : Expr} (a it : Addr) : Turn P w K tg (Itl K a) [it] it (fun i h => h.IsListIter it a i) where
 mem := by simp
 obj := fun i h st b hb => by
   have e : b = it := by simpa using hb
   subst e
   obtain ⟨o, e, c, d⟩ := st
   exact ⟨o, e, fun v z => by rw [d] at z; cases z⟩
 keep := fun i h h' st k => st.at fun o e => k it (by simp) o e
 item := by
   intro X hP hw hK hc i pins s σ H E I hf st hg
   subst hP hw hK
   obtain ⟨xs, x, hq, hx⟩ := hg
   obtain ⟨its, rv, p, hz⟩ := I.list hq
   obtain ⟨u, hu, ru⟩ := rv.get hx
   obtain ⟨f0, f1, f2, f3, f4, f5⟩ := hf it (by simp)
   refine wpAny_pyNext_list_item st p.isList (x := u) (by simpa using hu) fun h' st' sb => ?_
   have I1 : Inv X pins σ H { s with heap := h' } := I.turned (t' := s.toks) (fun b o hb e => (sb.2 b hb).trans e) f0 f1 f3 f4 f5
   obtain ⟨o, e, c, d⟩ := id st'
   exact ⟨u, rfl, go_of (s := { s with heap := h' }) e c d (by decide) ⟨x, H, I1, ru, ⟨rfl, fun ys hy => by rw [I.list_inj hy hq]; exact hx⟩, st', fun b hb => (hf b hb).1⟩⟩
 done := by
   intro X hP hw hK hc i pins s σ H E I hf st hg
   subst hP hw hK
   obtain ⟨xs, hq, hx⟩ := hg
   obtain ⟨its, rv, p, hz⟩ := I.list hq
   obtain ⟨f0, f1, f2, f3, f4, f5⟩ := hf it (by simp)
   have hl := rv.length
   exact wpAny_pyNext_list_end (I.ok.hd hc) st p.isList (by simp; omega) fun h' eb => ⟨rfl, I.turned (t' := s.toks) (fun b o hb e => eb b o hb e) f0 f1 f3 f4 f5⟩
 self := fun _ _ _ _ _ st h => wpAny_pyIter_listiter st h
theorem turn_range {P : Program} {w : World} {K : PySem.W.Frag} {tg : Expr} (it : Addr) (lo : Int) (n : Nat) : Turn P w K tg (Itr lo n) [it] it (fun i h => IsRangeIter h it (lo + (i : Nat) * 1) ((n : Int) - (i : Nat)) 1) where
 mem := by simp
 obj := fun i h st b hb => by
   have e : b = it := by simpa using hb
   subst e
   exact ⟨_, st, fun v z => by
     have z' : Data.fields _ = Data.cell v := z
     cases z'⟩
 keep := fun i h h' st k => k it (by simp) _ st
 item := by
   intro X hP hw hK hc i pins s σ H E I hf st hg
   subst hP hw hK
   obtain ⟨f0, f1, f2, f3, f4, f5⟩ := hf it (by simp)
   have W := Walks.range (prog := X.prog) (w := X.w) (I.ok.hd hc) it lo 1 n
   refine W.item i s _ _ hg st fun v h' tk hv st' kk => ?_
   obtain ⟨t, rfl⟩ := hv
   have I1 : Inv X pins σ H { s with heap := h', toks := tk } := I.turned (fun b o hb e => kk b o (by simpa using hb) e) f0 f1 f3 f4 f5
   refine ⟨_, rfl, go_of (s := { s with heap := h', toks := tk }) (n := "range_iterator") st' rfl rfl (by decide) ⟨.int (lo + i), H, I1, ⟨t, ?_⟩, ⟨rfl, rfl⟩, st', fun b hb => (hf b hb).1⟩⟩
   rw [Int.mul_one]
 done := by
   intro X hP hw hK hc i pins s σ H E I hf st hg
   subst hP hw hK
   obtain ⟨f0, f1, f2, f3, f4, f5⟩ := hf it (by simp)
   exact wpAny_pyNext_range_end (I.ok.hd hc) st (by have : n ≤ i := hg; omega) fun h' eb => ⟨rfl, I.turned (t' := s.toks) (fun b o hb e => eb b o hb e) f0 f1 f3 f4 f5⟩
 self := fun _ _ _ _ _ st h => wpAny_pyIter_rangeiter st h
end L2
namespace L2
open PySem PySem.Spec PyProof.Rows
section
variable {X : Cx} {tg : Expr}
def iList (K : PySem.W.Frag) (tl : TE) : TI := fun σ H R => tl σ H fun x H1 => ∃ a, x = .ref a ∧ (∃ xs, SqL K H1 a xs) ∧ R (Itl K a) H1
theorem yR {l : Expr} {tl : TE} (hl : PE X l tl) : PI X tg l (iList X.K tl) := by
 intro pins s σ H R I h
 refine thn (hl pins s σ H _ I h) fun v s1 ⟨x, H1, I1, r1, q1⟩ => ?_
 obtain ⟨a, e, ⟨xs, hq⟩, q⟩ := q1
 subst e
 cases r1
 obtain ⟨its, rv, p, hz⟩ := I1.list hq
 refine wpAny_pyIter_list p.isList ?_
 refine ⟨s1.heap.objs.size, [s1.heap.objs.size], _, _, H1, rfl, I1.kept (t' := s1.toks) fun b o e => Heap.get?_push_of_some _ e, turn_list a _, ⟨_, Heap.get?_push_size _ rfl, rfl, rfl⟩, fun b hb => ?_, q⟩
 have e : b = s1.heap.objs.size := by simpa using hb
 subst e
 exact I1.fpOk (Nat.le_refl _) (I1.hok.fresh (Nat.le_refl _))
theorem range_it {pins : List (Addr × Obj)} {σ : St} {H : Hp} {s : Shared} {R : It → Hp → Prop} {E : Value → Shared → Prop} {lo hi : Int} {t u v : Tok} {tk : Nat} (I : Inv X pins σ H s) (h1 : -(2 ^ 62) ≤ lo) (h2 : lo < 2 ^ 62) (h3 : -(2 ^ 62) ≤ hi) (h4 : hi < 2 ^ 62)
   (q : R (Itr lo (hi - lo).toNat) H) : wpAny (model X.prog X.w) X.A (pyIter (.ref s.heap.objs.size)) (PIE X pins σ tg R) E { s with heap := s.heap.push { cls := .type "range", data := .fields #[.int lo t, .int hi u, .int 1 v] }, toks := tk } := by
 refine wpAny_pyIter_range (IsRange.new ..) (small_one h1 h2 h3 h4) ?_
 have I1 : Inv X pins σ H { s with heap := s.heap.push { cls := .type "range", data := .fields #[.int lo t, .int hi u, .int 1 v] }, toks := tk } := I.kept fun b o e => Heap.get?_push_of_some _ e
 refine ⟨(s.heap.push { cls := .type "range", data := .fields #[.int lo t, .int hi u, .int 1 v] }).objs.size, [(s.heap.push { cls := .type "range", data := .fields #[.int lo t, .int hi u, .int 1 v] }).objs.size], _, _, H, rfl,
   I1.kept (t' := tk) fun b o e => Heap.get?_push_of_some _ e, turn_range _ lo (hi - lo).toNat, ?_, fun b hb => ?_, q⟩
 · have e1 : lo + ((0 : Nat) : Int) * 1 = lo := by simp
   have e2 : (((hi - lo).toNat : Nat) : Int) - ((0 : Nat) : Int) = Builtin.Range.rangeSize lo hi 1 := by rw [rangeSize_one]; split <;> omega
   show IsRangeIter _ _ (lo + ((0 : Nat) : Int) * 1) ((((hi - lo).toNat : Nat) : Int) - ((0 : Nat) : Int)) 1
   rw [e1, e2]
   exact Heap.get?_push_size _ rfl
 · have e : b = (s.heap.push { cls := .type "range", data := .fields #[.int lo t, .int hi u, .int 1 v] }).objs.size := by simpa using hb
   subst e
   exact I1.fpOk (Nat.le_refl _) (I1.hok.fresh (Nat.le_refl _))
def iRng1 (ta : TA) : TI := fun σ H R => ta σ H fun vs H1 => ∃ j : Int, vs = [.int j] ∧ -(2 ^ 62) ≤ j ∧ j < 2 ^ 62 ∧ R (Itr 0 j.toNat) H1
theorem pi_range1 {a : Expr} {ta : TA} {p pos : Pos} (hg : Gl X "range") (hm : X.mg "range" = none) (ha : PA X [a] ta) (hs : starEach [a] X.env = [(false, eval a X.env)] := by rfl) : PI X tg (.Call (.Name "range" p) [a] [] pos) (iRng1 ta) := by
 intro pins s σ H R I h
 refine Call_ (ld_blt I hg hm boot_range (PyProof.Rows.callWith_type1 (thn (ha pos pins s σ H _ I h) fun us s1 ⟨vs, H1, I1, r1, q1⟩ => ?_) hs rfl))
 obtain ⟨j, e, q1, q2, q⟩ := q1
 subst e
 cases r1 with
 | cons r rr =>
   cases rr
   obtain ⟨t, rfl⟩ := r
   exact call_range_1 (range_it I1 (by omega) (by omega) q1 q2 (by simpa using q))
def tFor (wi : TI) (g : TG) (tb : TS) : TS := fun D σ H => wi σ H fun J H1 => ∃ W : Nat → Nat → St → Hp → Prop, (∃ m, W 0 m σ H1) ∧ ∀ i m σ H, W i m σ H →
 (J.stop i H ∧ D.nx σ H) ∨ (J.go i H ∧ ∃ N : St → Hp → Prop, (∀ σ' H', N σ' H' → ∃ m', m' < m ∧ W (i + 1) m' σ' H') ∧ ∀ x H', J.yld i H x H' → g x σ H' fun σ2 H2 => tb { D with nx := N, ct := N, bk := D.nx } σ2 H2)
def pinsAt (fp : List Addr) (h : Heap) : List (Addr × Obj) := fp.filterMap fun b => (h.get? b).map fun o => (b, o)
theorem xD {fp : List Addr} {h : Heap} {b : Addr} {o : Obj} (hb : b ∈ fp) (e : h.get? b = some o) : (b, o) ∈ pinsAt fp h := List.mem_filterMap.mpr ⟨b, hb, by rw [e]; rfl⟩
theorem of_pinsAt {fp : List Addr} {h : Heap} {p : Addr × Obj} (hp : p ∈ pinsAt fp h) : p.1 ∈ fp ∧ h.get? p.1 = some p.2 := by
 obtain ⟨b, hb, e⟩ := List.mem_filterMap.mp hp
 cases q : h.get? b with
 | none => rw [q] at e; cases e
 | some o =>
   rw [q] at e
   have e' : (b, o) = p := Option.some.inj e
   subst e'
   exact ⟨hb, q⟩
theorem Inv.pinned {pins : List (Addr × Obj)} {σ : St} {H : Hp} {s : Shared} {fp : List Addr} (I : Inv X pins σ H s) (hf : ∀ b ∈ fp, FpOk X pins H b) (ho : ∀ b ∈ fp, ∃ o, s.heap.get? b = some o ∧ ∀ v, o.data ≠ .cell v) : Inv X (pins ++ pinsAt fp s.heap) σ H s :=
 I.pins_of fun p hp => (List.mem_append.mp hp).elim (fun z => I.pin p (List.mem_append_right _ z)) fun z => by
   obtain ⟨hb, e⟩ := of_pinsAt z
   obtain ⟨f0, f1, f2, _⟩ := hf p.1 hb
   obtain ⟨o, e', d⟩ := ho p.1 hb
   rw [e] at e'; cases e'
   exact ⟨e, f0, f1, f2, d⟩
theorem Inv.unpinned {pins pl : List (Addr × Obj)} {σ : St} {H : Hp} {s : Shared} (I : Inv X (pins ++ pl) σ H s) : Inv X pins σ H s := I.pins_of fun p hp => I.pin p (List.mem_append_right _ (List.mem_append_left _ hp))
theorem ps_for {iter : Expr} {body : List Stmt} {wi : TI} {g : TG} {tb : TS} {pos : Pos} (hp : PassesOwn (model X.prog X.w) X.A X.env X.xe) (hc : X.calm = true) (hi : PI X tg iter wi) (hg : PG X tg g) (hb : PSs X body tb)
   (hs : ∀ x, foldedSetIterable iter X.env x = pure x := by intro _; rfl) : PS X (.For tg iter body [] pos) (tFor wi g tb) := by
 intro pins s σ H D I h
 refine wpAny_For (thn (hi pins s σ H _ I h) fun v s1 h1 => thn h1 fun itv s2 h2 => ?_) hs
 obtain ⟨it, fp, tn, J, H2, e, I2, T, st2, f2, W, ⟨m0, w0⟩, turn⟩ := h2
 subst e
 have stat : ∀ {H' : Hp}, (∀ b ∈ fp, H' b = none) → ∀ b ∈ fp, FpOk X pins H' b := fun hn b hb => ⟨hn b hb, (f2 b hb).2⟩
 refine codeAny_forLoop_any (fun n s' => ∃ i σ' H', Inv X pins σ' H' s' ∧ tn i s'.heap ∧ (∀ b ∈ fp, H' b = none) ∧ W i n σ' H') ?_ m0 ⟨0, σ, H2, I2, st2, fun b hb => (f2 b hb).1, w0⟩
 rintro n s3 ⟨i, σ3, H3, I3, st3, fr3, w3⟩
 rcases turn i n σ3 H3 w3 with ⟨stop, qn⟩ | ⟨go, N, hN, step⟩
 · refine wpAny_passesOwn hp (thn (T.done X rfl rfl rfl hc i pins s3 σ3 H3 X.xe I3 (stat fr3) st3 stop) fun r s4 ⟨hr, I4⟩ => ?_)
   subst hr
   exact wpAny_execs_nil ⟨σ3, H3, I4, qn⟩
 · refine wpAny_passesOwn hp (thn (T.item X rfl rfl rfl hc i pins s3 σ3 H3 X.xe I3 (stat fr3) st3 go) fun r s4 ⟨u, hr, h4⟩ => ?_)
   subst hr
   refine wpAny_passesOwn hp (thn h4 fun _ s5 ⟨x, H5, I5, r5, y5, st5, fr5⟩ => ?_)
   have I5' := I5.pinned (stat fr5) (T.obj _ _ st5)
   refine wpAny_passesOwn hp (thn (hg _ s5 σ3 H5 x u _ I5' r5 (step x H5 y5)) fun _ s6 ⟨σ6, H6, I6, q6⟩ => ?_)
   refine wpAny_passesOwn hp (thn (hb _ s6 σ6 H6 _ I6 q6) fun f s7 q7 => ?_)
   have again : ∀ {σ7 : St} {H7 : Hp}, Inv X (pins ++ pinsAt fp s5.heap) σ7 H7 s7 → N σ7 H7 → ∃ m, m < n ∧ ∃ i σ' H', Inv X pins σ' H' s7 ∧ tn i s7.heap ∧ (∀ b ∈ fp, H' b = none) ∧ W i m σ' H' := fun {σ7 H7} I7 n7 => by
     obtain ⟨m', hm, w7⟩ := hN σ7 H7 n7
     refine ⟨m', hm, i + 1, σ7, H7, I7.unpinned, T.keep _ _ _ st5 fun b hb o e => (I7.pin (b, o) (List.mem_append_right _ (List.mem_append_right _ (xD hb e)))).1, fun b hb => ?_, w7⟩
     obtain ⟨o, e, d⟩ := T.obj _ _ st5 b hb
     exact (I7.pin (b, o) (List.mem_append_right _ (List.mem_append_right _ (xD hb e)))).2.1
   cases f with
   | next => obtain ⟨σ7, H7, I7, n7⟩ := q7; exact again I7 n7
   | cont => obtain ⟨σ7, H7, I7, n7⟩ := q7; exact again I7 n7
   | brk => obtain ⟨σ7, H7, I7, q7⟩ := q7; exact ⟨σ7, H7, I7.unpinned, q7⟩
   | ret v => obtain ⟨x7, σ7, H7, I7, r7, q7⟩ := q7; exact ⟨x7, σ7, H7, I7.unpinned, r7, q7⟩
end
theorem for_list {K : PySem.W.Frag} {a : Addr} {xs : List V} {g : TG} {tb : TS} {D : Ends} {σ : St} {H : Hp} (Pv : Nat → St → Hp → Prop) (h0 : Pv 0 σ H) (hl : ∀ i σ H, i ≤ xs.length → Pv i σ H → SqL K H a xs)
   (hs : ∀ i x σ H, xs[i]? = some x → Pv i σ H → g x σ H fun σ2 H2 => tb { D with nx := Pv (i + 1), ct := Pv (i + 1), bk := D.nx } σ2 H2) (hd : ∀ σ H, Pv xs.length σ H → D.nx σ H) :
   ∃ W : Nat → Nat → St → Hp → Prop, (∃ m, W 0 m σ H) ∧ ∀ i m σ H, W i m σ H →
     ((Itl K a).stop i H ∧ D.nx σ H) ∨ ((Itl K a).go i H ∧ ∃ N : St → Hp → Prop, (∀ σ' H', N σ' H' → ∃ m', m' < m ∧ W (i + 1) m' σ' H') ∧ ∀ x H', (Itl K a).yld i H x H' → g x σ H' fun σ2 H2 => tb { D with nx := N, ct := N, bk := D.nx } σ2 H2) := by
 refine ⟨fun i m σ H => m = xs.length - i ∧ i ≤ xs.length ∧ Pv i σ H, ⟨xs.length, by simp, Nat.zero_le _, h0⟩, ?_⟩
 rintro i m σ H ⟨rfl, hi, p⟩
 have q := hl i σ H hi p
 by_cases hlt : i < xs.length
 · refine .inr ⟨⟨xs, xs[i], q, by simp [hlt]⟩, Pv (i + 1), fun σ' H' p' => ⟨xs.length - (i + 1), by omega, rfl, hlt, p'⟩, fun x H' y => ?_⟩
   obtain ⟨e, y⟩ := y
   subst e
   exact hs i x σ _ (y xs q) p
 · have e : i = xs.length := by omega
   subst e
   exact .inl ⟨⟨xs, q, Nat.le_refl _⟩, hd σ H p⟩
theorem for_range {lo : Int} {n : Nat} {g : TG} {tb : TS} {D : Ends} {σ : St} {H : Hp} (Pv : Nat → St → Hp → Prop) (h0 : Pv 0 σ H)
   (hs : ∀ i σ H, i < n → Pv i σ H → g (.int (lo + i)) σ H fun σ2 H2 => tb { D with nx := Pv (i + 1), ct := Pv (i + 1), bk := D.nx } σ2 H2) (hd : ∀ σ H, Pv n σ H → D.nx σ H) :
   ∃ W : Nat → Nat → St → Hp → Prop, (∃ m, W 0 m σ H) ∧ ∀ i m σ H, W i m σ H →
     ((Itr lo n).stop i H ∧ D.nx σ H) ∨ ((Itr lo n).go i H ∧ ∃ N : St → Hp → Prop, (∀ σ' H', N σ' H' → ∃ m', m' < m ∧ W (i + 1) m' σ' H') ∧ ∀ x H', (Itr lo n).yld i H x H' → g x σ H' fun σ2 H2 => tb { D with nx := N, ct := N, bk := D.nx } σ2 H2) := by
 refine ⟨fun i m σ H => m = n - i ∧ i ≤ n ∧ Pv i σ H, ⟨n, by simp, Nat.zero_le _, h0⟩, ?_⟩
 rintro i m σ H ⟨rfl, hi, p⟩
 by_cases hlt : i < n
 · refine .inr ⟨hlt, Pv (i + 1), fun σ' H' p' => ⟨n - (i + 1), by omega, rfl, hlt, p'⟩, fun x H' y => ?_⟩
   obtain ⟨e, y⟩ := y
   subst e y
   exact hs i σ _ hlt p
 · have e : i = n := by omega
   subst e
   exact .inl ⟨Nat.le_refl _, hd σ H p⟩
end L2
namespace L2
open PySem PySem.Spec PyProof.Rows
abbrev R2 := V → V → Hp → VK → Prop
def OpR (X : Cx) (f : Value → Value → Sem Value) (r : R2) : Prop :=
 ∀ (pins : List (Addr × Obj)) (s : Shared) (σ : St) (H : Hp) (x y : V) (v u : Value) (Q : VK), Inv X pins σ H s → RelV x v → RelV y u → r x y H Q →
   wpAny (model X.prog X.w) X.A (f v u) (EP X pins σ Q) X.xe s
def UnR (X : Cx) (f : Value → Sem Value) (r : V → Hp → VK → Prop) : Prop :=
 ∀ (pins : List (Addr × Obj)) (s : Shared) (σ : St) (H : Hp) (x : V) (v : Value) (Q : VK), Inv X pins σ H s → RelV x v → r x H Q →
   wpAny (model X.prog X.w) X.A (f v) (EP X pins σ Q) X.xe s
def CallR (X : Cx) (f : Value) (r : List V → Hp → VK → Prop) : Prop :=
 ∀ (pins : List (Addr × Obj)) (s : Shared) (σ : St) (H : Hp) (xs : List V) (us : List Value) (Q : VK), Inv X pins σ H s → Vals xs us → r xs H Q →
   wpAny (model X.prog X.w) X.A (call f us) (EP X pins σ Q) X.xe s
def TruR (X : Cx) (r : V → Hp → (Bool → Hp → Prop) → Prop) : Prop :=
 ∀ (pins : List (Addr × Obj)) (s : Shared) (σ : St) (H : Hp) (x : V) (v : Value) (Q : Bool → Hp → Prop), Inv X pins σ H s → RelV x v → r x H Q →
   wpAny (model X.prog X.w) X.A (truthy v) (TP X pins σ Q) X.xe s
def tOp (r : R2) (ta tb : TE) : TE := fun σ H Q => ta σ H fun x H1 => tb σ H1 fun y H2 => r x y H2 Q
def rI (C : Int → Int → Prop) (g : Int → Int → V) : R2 := fun x y H Q => ∃ i j, x = .int i ∧ y = .int j ∧ C i j ∧ Q (g i j) H
def rI0 (g : Int → Int → V) : R2 := fun x y H Q => ∃ i j, x = .int i ∧ y = .int j ∧ Q (g i j) H
section
variable {X : Cx} {a b c : Expr} {ta tb tc : TE} {pos : Pos}
theorem binT (ha : PE X a ta) (hb : PE X b tb) {pins : List (Addr × Obj)} {s : Shared} {σ : St} {H : Hp} {R : V → V → Hp → Prop} (I : Inv X pins σ H s)
   (h : ta σ H fun x H1 => tb σ H1 fun y H2 => R x y H2) {Q : Value → Shared → Prop} {f : Value → Value → Sem Value}
   (hf : ∀ v u s2 x y H2, Inv X pins σ H2 s2 → RelV x v → RelV y u → R x y H2 → wpAny (model X.prog X.w) X.A (f v u) Q X.xe s2) :
   wpAny (model X.prog X.w) X.A (eval a X.env) (fun v s₁ => wpAny (model X.prog X.w) X.A (eval b X.env) (fun u s₂ => wpAny (model X.prog X.w) X.A (f v u) Q X.xe s₂) X.xe s₁) X.xe s := by
 refine thn (ha pins s σ H _ I h) fun v s1 ⟨x, H1, I1, r1, q1⟩ => ?_
 refine thn (hb pins s1 σ H1 _ I1 q1) fun u s2 ⟨y, H2, I2, r2, q2⟩ => ?_
 exact hf v u s2 x y H2 I2 r1 r2 q2
theorem zU {op : Operator} {r : R2} (ho : OpR X (binaryOp op) r) (ha : PE X a ta) (hb : PE X b tb) : PE X (.BinOp a op b pos) (tOp r ta tb) := by
 intro pins s σ H Q I h
 exact wpAny_BinOp (binT ha hb I h fun v u s2 x y H2 I2 rx ry q => ho pins s2 σ H2 x y v u Q I2 rx ry q)
theorem opI {f : Value → Value → Sem Value} {C : Int → Int → Prop} {g : Int → Int → Int}
   (rule : ∀ (i j : Int) (t u : Tok) (s : Shared) (Q : Value → Shared → Prop) (E : Value → Shared → Prop), C i j → Q (.int (g i j) s.toks) { s with toks := s.toks + 1 } → wpAny (model X.prog X.w) X.A (f (.int i t) (.int j u)) Q E s) :
   OpR X f (rI C fun i j => .int (g i j)) := by
 intro pins s σ H x y v u Q I rx ry h
 obtain ⟨i, j, rfl, rfl, hc, q⟩ := h
 obtain ⟨t, rfl⟩ := rx
 obtain ⟨t', rfl⟩ := ry
 exact rule i j t t' s _ _ hc ⟨.int (g i j), H, I.tok _, ⟨_, rfl⟩, q⟩
theorem opI0 {f : Value → Value → Sem Value} {g : Int → Int → Int}
   (rule : ∀ (i j : Int) (t u : Tok) (s : Shared) (Q : Value → Shared → Prop) (E : Value → Shared → Prop), Q (.int (g i j) s.toks) { s with toks := s.toks + 1 } → wpAny (model X.prog X.w) X.A (f (.int i t) (.int j u)) Q E s) :
   OpR X f (rI0 fun i j => .int (g i j)) := by
 intro pins s σ H x y v u Q I rx ry h
 obtain ⟨i, j, rfl, rfl, q⟩ := h
 obtain ⟨t, rfl⟩ := rx
 obtain ⟨t', rfl⟩ := ry
 exact rule i j t t' s _ _ ⟨.int (g i j), H, I.tok _, ⟨_, rfl⟩, q⟩
theorem opB0 {f : Value → Value → Sem Value} {g : Int → Int → Bool}
   (rule : ∀ (i j : Int) (t u : Tok) (s : Shared) (Q : Value → Shared → Prop) (E : Value → Shared → Prop), Q (.bool (g i j)) s → wpAny (model X.prog X.w) X.A (f (.int i t) (.int j u)) Q E s) :
   OpR X f (rI0 fun i j => .bl (g i j)) := by
 intro pins s σ H x y v u Q I rx ry h
 obtain ⟨i, j, rfl, rfl, q⟩ := h
 obtain ⟨t, rfl⟩ := rx
 obtain ⟨t', rfl⟩ := ry
 exact rule i j t t' s _ _ ⟨.bl (g i j), H, I, rfl, q⟩
def CDiv (i j : Int) : Prop := 0 < j ∧ j < 1073741824
def CPow (i j : Int) : Prop := 0 ≤ j ∧ j ≤ 1000000 ∧ i.natAbs < 2 ^ 64
def CMul (i j : Int) : Prop := (-(2 ^ 64) < i ∧ i < 2 ^ 64) ∨ (-(2 ^ 64) < j ∧ j < 2 ^ 64)
theorem CMul.ok {i j : Int} (h : CMul i j) : IntMulOk i j := by
 rcases h with ⟨h1, h2⟩ | ⟨h1, h2⟩
 · exact .of_left (intBits_le_64 h1 h2)
 · exact .of_right (intBits_le_64 h1 h2)
theorem xR : OpR X (binaryOp .Add) (rI0 fun i j => .int (i + j)) := opI0 fun _ _ _ _ _ _ _ q => add_int q
theorem op_fdiv : OpR X (binaryOp .FloorDiv) (rI CDiv fun i j => .int (i / j)) := opI fun i j _ _ _ _ _ hc q => by
 have h1 : (0 : Int) < j := hc.1
 have h2 : j < 1073741824 := hc.2
 exact floordiv_int (by omega) (by rw [Int.fdiv_eq_ediv_of_nonneg i (by omega)]; exact q) (.inl (PyProof.noPylong_small (by omega)))
theorem yU : OpR X (binaryOp .Mod) (rI (fun _ j => 0 < j) fun i j => .int (i % j)) := opI fun i j _ _ _ _ _ hc q => by
 have h1 : (0 : Int) < j := hc
 exact mod_int' (by omega) (by rw [Int.fmod_eq_emod_of_nonneg i (by omega)]; exact q)
theorem op_pow : OpR X (binaryOp .Pow) (rI CPow fun i j => .int (i ^ j.toNat)) := opI fun _ _ _ _ _ _ _ hc q => pow_int_small hc.1 hc.2.1 hc.2.2 q
end
def scal : V → V → Bool
 | .non, .non => true | .non, .int _ => true | .int _, .non => true | .non, .bl _ => true | .bl _, .non => true | .non, .str _ => true | .str _, .non => true
 | .int _, .int _ => true | .bl _, .bl _ => true | .str _, .str _ => true | .byt _, .byt _ => true
 | .int _, .str _ => true | .str _, .int _ => true | .bl _, .str _ => true | .str _, .bl _ => true
 | _, _ => false
def rEq : R2 := fun x y H Q => scal x y = true ∧ Q (.bl (decide (x = y))) H
theorem dec_int {i j : Int} : decide (V.int i = V.int j) = (i == j) := by
 rw [Bool.eq_iff_iff]
 simp
theorem dec_bl {i j : Bool} : decide (V.bl i = V.bl j) = (i == j) := by
 rw [Bool.eq_iff_iff]
 simp
theorem dec_str {i j : Str} : decide (V.str i = V.str j) = (i == j) := by
 rw [Bool.eq_iff_iff]
 simp
theorem dec_byt {i j : Array UInt8} : decide (V.byt i = V.byt j) = (i.toList == j.toList) := by
 rw [Bool.eq_iff_iff]
 cases i
 cases j
 simp
section
variable {X : Cx} {a b c : Expr} {ta tb tc : TE} {pos : Pos}
theorem xA {pins : List (Addr × Obj)} {σ : St} {H : Hp} {s : Shared} {Q : VK} {k k' : Bool} (I : Inv X pins σ H s) (q : Q (.bl k) H) (e : k = k') : EP X pins σ Q (.bool k') s := by
 subst e
 exact ⟨.bl k, H, I, rfl, q⟩
theorem op_eq : OpR X (compareOp .Eq) rEq := by
 intro pins s σ H x y v u Q I rx ry h
 obtain ⟨hs, q⟩ := h
 cases x with
 | non =>
   cases rx
   cases y with
   | non => cases ry; exact PySem.EqNone.eq_none_none (xA I q (by simp))
   | bl j => cases ry; exact PySem.EqNone.eq_none_bool (xA I q (by simp))
   | int j => obtain ⟨t', rfl⟩ := ry; exact PySem.EqNone.eq_none_int (xA I q (by simp))
   | str j => obtain ⟨t', rfl⟩ := ry; exact PySem.EqNone.eq_none_str (xA I q (by simp))
   | _ => exact absurd (show false = true from hs) Bool.false_ne_true
 | bl i =>
   cases rx
   cases y with
   | non => cases ry; exact PySem.EqNone.eq_bool_none (xA I q (by simp))
   | bl j => cases ry; exact eq_bool (xA I q dec_bl)
   | str j => obtain ⟨t', rfl⟩ := ry; exact PySem.EqMixed.eq_bool_str (xA I q (by simp))
   | _ => exact absurd (show false = true from hs) Bool.false_ne_true
 | int i =>
   obtain ⟨t, rfl⟩ := rx
   cases y with
   | non => cases ry; exact PySem.EqNone.eq_int_none (xA I q (by simp))
   | int j => obtain ⟨t', rfl⟩ := ry; exact eq_int (xA I q dec_int)
   | str j => obtain ⟨t', rfl⟩ := ry; exact PySem.EqMixed.eq_int_str (xA I q (by simp))
   | _ => exact absurd (show false = true from hs) Bool.false_ne_true
 | str i =>
   obtain ⟨t, rfl⟩ := rx
   cases y with
   | non => cases ry; exact PySem.EqNone.eq_str_none (xA I q (by simp))
   | bl j => cases ry; exact PySem.EqMixed.eq_str_bool (xA I q (by simp))
   | int j => obtain ⟨t', rfl⟩ := ry; exact PySem.EqMixed.eq_str_int (xA I q (by simp))
   | str j => obtain ⟨t', rfl⟩ := ry; exact eq_str (xA I q dec_str)
   | _ => exact absurd (show false = true from hs) Bool.false_ne_true
 | byt i =>
   obtain ⟨t, rfl⟩ := rx
   cases y with
   | byt j => obtain ⟨t', rfl⟩ := ry; exact PySem.W.eq_bytes (xA I q dec_byt)
   | _ => exact absurd (show false = true from hs) Bool.false_ne_true
 | _ => cases y <;> exact absurd (show false = true from hs) Bool.false_ne_true
theorem op_lt : OpR X (compareOp .Lt) (rI0 fun i j => .bl (decide (i < j))) := opB0 fun _ _ _ _ _ _ _ q => lt_int q
theorem op_gt : OpR X (compareOp .Gt) (rI0 fun i j => .bl (decide (j < i))) := opB0 fun _ _ _ _ _ _ _ q => gt_int q
theorem op_isN : OpR X (compareOp .Is) (fun x y H Q => y = .non ∧ Q (.bl (decide (x = .non))) H) := by
 intro pins s σ H x y v u Q I rx ry h
 obtain ⟨rfl, q⟩ := h
 cases ry
 refine is_none_gen (xA I q ?_)
 cases x <;> first
   | (cases rx; rfl)
   | (obtain ⟨t, rfl⟩ := rx; rfl)
theorem op_notN : OpR X (compareOp .IsNot) (fun x y H Q => y = .non ∧ Q (.bl (!decide (x = .non))) H) := by
 intro pins s σ H x y v u Q I rx ry h
 obtain ⟨rfl, q⟩ := h
 cases ry
 refine isnot_none_gen (xA I q ?_)
 cases x <;> first
   | (cases rx; rfl)
   | (obtain ⟨t, rfl⟩ := rx; rfl)
theorem yJ (b : Expr) {op : CmpOp} (h : op ≠ .In := by decide) (h2 : op ≠ .NotIn := by decide) : behindInMarks op b = false := by
 have e1 : (op == CmpOp.In) = false := by cases op <;> first | rfl | exact absurd rfl h
 have e2 : (op == CmpOp.NotIn) = false := by cases op <;> first | rfl | exact absurd rfl h2
 cases b <;> simp [behindInMarks, e1, e2]
theorem pe_cmpR {op : CmpOp} {r : R2} (ho : OpR X (compareOp op) r) (ha : PE X a ta) (hb : PE X b tb) (hm : behindInMarks op b = false) : PE X (.Compare a [op] [b] pos) (tOp r ta tb) := by
 intro pins s σ H Q I h
 exact wpAny_Compare1 (binT ha hb I h fun v u s2 x y H2 I2 rx ry q => ho pins s2 σ H2 x y v u Q I2 rx ry q) hm
def tTest (t : TE) : TT := fun σ H Q => t σ H fun x H' => ∃ k, x = .bl k ∧ Q k H'
theorem yC {op : CmpOp} {r : R2} (ho : OpR X (compareOp op) r) (ha : PE X a ta) (hb : PE X b tb) (hm : behindInMarks op b = false) : PT X (.Compare a [op] [b] pos) (tTest (tOp r ta tb)) := by
 intro pins s σ H Q I h
 refine wpAny_isTrue_Compare1 (thn (ha pins s σ H _ I h) fun v s1 ⟨x, H1, I1, r1, q1⟩ => thn (hb pins s1 σ H1 _ I1 q1) fun u s2 ⟨y, H2, I2, r2, q2⟩ =>
   thn (ho pins s2 σ H2 x y v u _ I2 r1 r2 q2) fun c s3 ⟨z, H3, I3, r3, k, e, q3⟩ => ?_) hm
 subst e
 cases r3
 exact wpAny_truthy_bool ⟨H3, I3, q3⟩
theorem line63 : (sizeLine : Nat) < 2 ^ 63 := by rw [sizeLine_eq]; decide
theorem op_add_str : OpR X (binaryOp .Add) (fun x y H Q => ∃ i j, x = .str i ∧ y = .str j ∧ i.length + j.length ≤ sizeLine ∧ Q (.str (i ++ j)) H) := by
 intro pins s σ H x y v u Q I rx ry h
 obtain ⟨i, j, rfl, rfl, hz, q⟩ := h
 obtain ⟨t, rfl⟩ := rx
 obtain ⟨t', rfl⟩ := ry
 exact add_str (fun t' tk => ⟨.str (i ++ j), H, I.tok _, ⟨_, rfl⟩, q⟩) hz
theorem vals1 {x : V} {us : List Value} (r : Vals [x] us) : ∃ u, us = [u] ∧ RelV x u := by
 cases r with
 | cons r1 r2 => cases r2; exact ⟨_, rfl, r1⟩
theorem vals2 {x y : V} {us : List Value} (r : Vals [x, y] us) : ∃ u w', us = [u, w'] ∧ RelV x u ∧ RelV y w' := by
 cases r with
 | cons r1 r2 =>
   cases r2 with
   | cons r3 r4 => cases r4; exact ⟨_, _, rfl, r1, r3⟩
theorem call_int1 : CallR X (.type "int") (fun xs H Q => (∃ i, xs = [.int i] ∧ Q (.int i) H) ∨ ∃ k, xs = [.bl k] ∧ Q (.int (if k then 1 else 0)) H) := by
 intro pins s σ H xs us Q I r h
 rcases h with ⟨i, rfl, q⟩ | ⟨k, rfl, q⟩
 · obtain ⟨u, rfl, t, rfl⟩ := vals1 r
   exact call_int_int ⟨.int i, H, I, ⟨_, rfl⟩, q⟩
 · obtain ⟨u, rfl, r1⟩ := vals1 r
   cases r1
   exact call_int_bool ⟨.int (if k then 1 else 0), H, I.tok _, ⟨_, rfl⟩, q⟩
end
end L2
namespace L2
open PySem PySem.Spec PyProof.Rows
structure ObjM (h : Heap) (x dx C : Addr) (mA : Str → Option Value) : Prop where
 obj : h.get? x = some (PySem.W.instObj C dx)
 ns : h.Ns1 dx mA
 ne : dx ≠ x
theorem lookIn_ns {h : Heap} {dx : Addr} {mA : Str → Option Value} (n : h.Ns1 dx mA) : ∃ od, h.get? dx = some od ∧ ∀ name, PySem.W.lookIn name od = some (mA name) := by
 obtain ⟨o, es, ep, ho, hd, hk, _, hm⟩ := n
 refine ⟨o, ho, fun name => ?_⟩
 have e := hm name
 unfold nsFind findBy at e
 rw [← Array.find?_toList] at e
 unfold PySem.W.lookIn
 rw [hd]
 dsimp only
 split
 · rename_i y q
   rw [q] at e
   exact congrArg some e
 · rename_i q
   rw [q] at e
   have a : es.toList.any (·.refKey) = false := by
     rw [List.any_eq_false]
     intro y hy
     obtain ⟨z, t, hkey⟩ := hk y (Array.mem_toList_iff.mp hy)
     simp [DictEntry.refKey, hkey]
   have a' : ¬ es.toList.any (·.refKey) = true := by rw [a]; exact Bool.false_ne_true
   rw [if_neg a']
   exact congrArg some e
theorem ObjM.look {h : Heap} {x dx C : Addr} {mA : Str → Option Value} (I : ObjM h x dx C mA) : ∃ od, PySem.W.InstAt h x (PySem.W.instObj C dx) C (some od) ∧ ∀ name, PySem.W.lookIn name od = some (mA name) :=
 let ⟨od, ho, hl⟩ := lookIn_ns I.ns
 ⟨od, ⟨I.obj, rfl, rfl, ho⟩, hl⟩
section
variable {prog : Program} {w : World} {A : Around} {E : Value → Shared → Prop} {s : Shared} {K : PySem.W.Frag} {x dx C f : Addr} {mA : Str → Option Value} {name : Str} {v : Value}
theorem get_map {expr : Bool} {Q : Value → Shared → Prop} (X : K.In s.heap) (I : ObjM s.heap x dx C mA) (hg : PySem.W.plainGet K C name = true) (hh : PySem.W.hasDictIn K C = true)
   (ha : PySem.W.findIn K (.ref C) name = some none) (hv : mA name = some v) (hv' : PySem.W.handedIn v = true) (h : Q v { s with toks := s.toks + 1 }) :
   wpAny (model prog w) A (getAttr (.ref x) name expr) Q E s := by
 obtain ⟨od, J, hl⟩ := I.look
 exact PySem.W.get_value X J (PySem.W.plainGet_of hg).1 (PySem.W.findObj_own hh ha rfl (by rw [hl, hv])) hv' h
theorem get_meth {pl : Sem Bool} {Q : Value × List Value → Shared → Prop} (X : K.In s.heap) (I : ObjM s.heap x dx C mA) (hg : PySem.W.plainGet K C name = true)
   (hf : PySem.W.findIn K (.ref C) name = some (some (.ref f))) (ht : PySem.W.isFn K (.ref f) = true) (hv : mA name = none) (h : Q (.ref f, [.ref x]) s) :
   wpAny (model prog w) A (getMethod (.ref x) name pl) Q E s := by
 obtain ⟨od, J, hl⟩ := I.look
 exact PySem.W.method_fn X J (PySem.W.plainGet_of hg).1 (PySem.W.plainGet_of hg).2 hf (beq_iff_eq.mp ht) (by show (PySem.W.lookIn name od).map (·.isSome) = some false; rw [hl, hv]; rfl) h
theorem set_map {ns : List Str} {Q : Unit → Shared → Prop} (X : K.In s.heap) (I : ObjM s.heap x dx C mA)
   (hs : PySem.W.findIn K (.ref C) "__setattr__" = some (some (.builtin "object.__setattr__"))) (hp : PySem.W.plainOver K C = true) (ht : PySem.W.takerIn K C name = some none) (hh : PySem.W.hasDictIn K C = true)
   (hw : PySem.Within mA ns) (hsz : ns.length ≤ sizeLine)
   (h : ∀ h', ObjM h' x dx C (fun y => if y = name then some v else mA y) → Heap.SameBut dx s.heap h' → Q () { s with heap := h', toks := s.toks + 2 }) :
   wpAny (model prog w) A (setAttr (.ref x) name v) Q E s := by
 obtain ⟨od, J, hl⟩ := I.look
 refine PySem.W.set_plain X J hs (PySem.W.osa_open (s := { s with toks := s.toks + 1 }) (r := none) X J hp ht fun b => ?_)
 obtain ⟨cd, hc, hd'⟩ := PySem.W.any_some hh
 have hx : s.heap.get? x = some ⟨.ref C, some dx, .plain, #[]⟩ := I.obj
 refine wpAny_bind (wpAny_pure (wpAny_bind (wpAny_bind (wpAny_loadPart hx (wpAny_bind (PySem.W.Looks.here (s := { s with toks := s.toks + 1 }) (PySem.W.looks_clsIn X hc) ?_))))))
 rw [hd']
 refine wpAny_pure (a := some dx) (wpAny_bind (wpAny_pure (wpAny_bind ?_)))
 refine wpAny_nsSet1 (s := { s with toks := s.toks + 1 }) I.ns fun h' hn2 hs2 => ?_
 obtain ⟨oD, esD, epD, hoD, hdD, hcD⟩ := hn2.count (PySem.Within.cons name v hw)
 refine wpAny_bind (wpAny_lookBehind hoD (by rw [hdD]; exact pastItsLine_dict (Nat.le_trans hcD (by rw [List.length_cons]; omega))) ?_)
 exact wpAny_pure (h _ ⟨(hs2.2 _ (Ne.symm I.ne)).trans I.obj, hn2, I.ne⟩ hs2)
theorem make_map {R : Result → Shared → Prop} {vs : List Value} {kw : List (Str × Value)} (X : K.In s.heap) (hm : PySem.W.makesIn K C = true)
   (hi : PySem.W.findIn K (.ref C) "__init__" = some (some (.ref f))) (hf : PySem.W.typeIn K (.ref f) = some (.type "function"))
   (h : codeAny (model prog w) (A.under (.builtin "type.__call__" ⟨.ref C :: vs, kw⟩)) (.call (.ref f) ⟨.ref (s.heap.objs.size + 1) :: vs, kw⟩) (PySem.W.InitBack (s.heap.objs.size + 1) R)
     { s with heap := (s.heap.push PySem.W.emptyDict).push (PySem.W.instObj C s.heap.objs.size) }) :
   codeAny (model prog w) A (.call (.ref C) ⟨vs, kw⟩) R s := by
 obtain ⟨hh, g, d, t, os⟩ := s
 exact PySem.W.make_core (PySem.W.makes_of X hm) (PySem.W.looks_findIn X hi) (fun self => PySem.W.bind_fn X self hf) (.inl rfl) h
end
def putF (f : Str) (v : V) : List (Str × V) → List (Str × V)
 | [] => [(f, v)]
 | (g, x) :: r => if g = f then (g, v) :: r else (g, x) :: putF f v r
theorem lookup_putF (f g : Str) (v : V) : ∀ fs : List (Str × V), (putF f v fs).lookup g = if g = f then some v else fs.lookup g
 | [] => by
   show List.lookup g [(f, v)] = _
   by_cases h : g = f
   · have hb : (g == f) = true := beq_iff_eq.mpr h
     simp only [List.lookup, hb, if_pos h]
   · have hb : (g == f) = false := beq_eq_false_iff_ne.mpr h
     simp only [List.lookup, hb, if_neg h]
 | (k, x) :: r => by
   have ih := lookup_putF f g v r
   rw [show putF f v ((k, x) :: r) = (if k = f then (k, v) :: r else (k, x) :: putF f v r) from rfl]
   by_cases hk : k = f
   · rw [if_pos hk]
     by_cases h : g = k
     · have hb : (g == k) = true := beq_iff_eq.mpr h
       simp only [List.lookup, hb, if_pos (h.trans hk)]
     · have hb : (g == k) = false := beq_eq_false_iff_ne.mpr h
       simp only [List.lookup, hb, if_neg (fun e : g = f => h (e.trans hk.symm))]
   · rw [if_neg hk]
     by_cases h : g = k
     · have hb : (g == k) = true := beq_iff_eq.mpr h
       simp only [List.lookup, hb, if_neg (fun e : g = f => hk (h.symm.trans e))]
     · have hb : (g == k) = false := beq_eq_false_iff_ne.mpr h
       simp only [List.lookup, hb]
       exact ih
theorem keys_putF (f : Str) (v : V) : ∀ fs : List (Str × V), f ∈ (putF f v fs).map (·.1) ∧ ∀ g, g ∈ fs.map (·.1) → g ∈ (putF f v fs).map (·.1)
 | [] => ⟨by simp [putF], fun g h => by simp at h⟩
 | (k, x) :: r => by
   obtain ⟨i1, i2⟩ := keys_putF f v r
   rw [show putF f v ((k, x) :: r) = (if k = f then (k, v) :: r else (k, x) :: putF f v r) from rfl]
   by_cases hk : k = f
   · rw [if_pos hk]
     subst hk
     exact ⟨by simp, fun g h => by simpa using h⟩
   · rw [if_neg hk]
     refine ⟨?_, fun g h => ?_⟩
     · rw [List.map_cons]
       exact List.mem_cons_of_mem _ i1
     · rw [List.map_cons] at h ⊢
       rcases List.mem_cons.mp h with e | e
       · exact List.mem_cons.mpr (.inl e)
       · exact List.mem_cons_of_mem _ (i2 g e)
theorem length_putF (f : Str) (v : V) : ∀ fs : List (Str × V), (putF f v fs).length ≤ fs.length + 1
 | [] => by simp [putF]
 | (k, x) :: r => by
   have ih := length_putF f v r
   rw [show putF f v ((k, x) :: r) = (if k = f then (k, v) :: r else (k, x) :: putF f v r) from rfl]
   by_cases hk : k = f
   · rw [if_pos hk, List.length_cons, List.length_cons]; omega
   · rw [if_neg hk, List.length_cons, List.length_cons]; omega
theorem RelO.some_of {v : V} {o : Option Value} (r : RelO (some v) o) : ∃ u, o = some u ∧ RelV v u := by
 cases o with
 | none => exact (show False from r).elim
 | some u => exact ⟨u, rfl, r⟩
theorem RelO.none_of {o : Option Value} (r : RelO none o) : o = none := by
 cases o with
 | none => rfl
 | some u => exact (show False from r).elim
theorem handed_of {v : V} {u : Value} (r : RelV v u) : PySem.W.handedIn u = true := by
 cases v with
 | non => cases (show u = Value.none from r); rfl
 | bl b => cases (show u = Value.bool b from r); rfl
 | int i => obtain ⟨t, e⟩ := (show ∃ t, u = Value.int i t from r); cases e; rfl
 | str x => obtain ⟨t, e⟩ := (show ∃ t, u = Value.str x t from r); cases e; rfl
 | byt b => obtain ⟨t, e⟩ := (show ∃ t, u = Value.bytes b t from r); cases e; rfl
 | flt b => obtain ⟨t, e⟩ := (show ∃ t, u = Value.float b t from r); cases e; rfl
 | ref a => cases (show u = Value.ref a from r); rfl
 | ty n => cases (show u = Value.type n from r); rfl
section
variable {P : Program} {w : World} {H H' : Hp} {h h' : Heap} {a C dx : Addr} {fs fs' : List (Str × V)}
theorem ins_get (hok : HOk P w H h) (e : H a = some (.ins C dx fs)) : ∃ mA, ObjM h a dx C mA ∧ (∀ f, RelO (fs.lookup f) (mA f)) ∧ PySem.Within mA (fs.map (·.1)) ∧ fs.length ≤ 1000 ∧ H dx = some (.own a) := by
 obtain ⟨d, z, ne, ob, mA, n, r, q⟩ := (show ObjOk P w H h a (.ins C dx fs) from hok a _ e)
 exact ⟨mA, ⟨ob, n, ne⟩, r, q, z, d⟩
end
structure Cls (K : PySem.W.Frag) (C : Addr) : Prop where
 pg : PySem.W.plainGet K C Str.empty = true
 hd : PySem.W.hasDictIn K C = true
 po : PySem.W.plainOver K C = true
 sa : PySem.W.findIn K (.ref C) "__setattr__" = some (some (.builtin "object.__setattr__"))
theorem Cls.get {K : PySem.W.Frag} {C : Addr} (c : Cls K C) (f : Str) : PySem.W.plainGet K C f = true := c.pg
def NoAttr (K : PySem.W.Frag) (C : Addr) (f : Str) : Prop := PySem.W.findIn K (.ref C) f = some none
theorem NoAttr.taker {K : PySem.W.Frag} {C : Addr} {f : Str} (n : NoAttr K C f) : PySem.W.takerIn K C f = some none := by
 unfold PySem.W.takerIn
 rw [show PySem.W.findIn K (.ref C) f = some none from n]
 rfl
structure Con (K : PySem.W.Frag) (C : Addr) (f : Str) (v : V) (u : Value) : Prop where
 at_ : PySem.W.findIn K (.ref C) f = some (some u)
 rel : RelV v u
 get : PySem.W.specialIn K u "__get__" = some none
 cp : PySem.W.copiedNames.contains f = false
structure Meth (K : PySem.W.Frag) (C : Addr) (m : Str) (f : Addr) : Prop where
 at_ : PySem.W.findIn K (.ref C) m = some (some (.ref f))
 fn : PySem.W.isFn K (.ref f) = true
 kp : PySem.W.keepIn K (.ref f) = true
section
variable {X : Cx} {pins : List (Addr × Obj)} {σ : St} {H : Hp} {s : Shared} {a C dx : Addr} {fs : List (Str × V)} {f : Str} {v : V} {A : Around} {E : Value → Shared → Prop}
theorem getattr_ok {b : Bool} {Q : Value → Shared → Prop} (I : Inv X pins σ H s) (e : H a = some (.ins C dx fs)) (c : Cls X.K C) (n : NoAttr X.K C f) (l : fs.lookup f = some v)
   (h : ∀ u s', Inv X pins σ H s' → RelV v u → Q u s') : wpAny (model X.prog X.w) A (getAttr (.ref a) f b) Q E s := by
 obtain ⟨mA, O, r, _, _, _⟩ := ins_get I.hok e
 obtain ⟨u, hu, ru⟩ := RelO.some_of (v := v) (o := mA f) (by rw [← l]; exact r f)
 exact get_map I.kIn O (c.get f) c.hd n hu (handed_of ru) (h u _ (I.tok _) ru)
theorem getmeth_ok {m : Str} {g : Addr} {pl : Sem Bool} {Q : Value × List Value → Shared → Prop} (I : Inv X pins σ H s) (e : H a = some (.ins C dx fs)) (c : Cls X.K C) (k : Meth X.K C m g) (l : fs.lookup m = none)
   (h : Q (.ref g, [.ref a]) s) : wpAny (model X.prog X.w) A (getMethod (.ref a) m pl) Q E s := by
 obtain ⟨mA, O, r, _, _, _⟩ := ins_get I.hok e
 have hn : mA m = none := RelO.none_of (by rw [← l]; exact r m)
 exact get_meth I.kIn O (c.get m) k.at_ k.fn hn h
theorem setattr_ok {y : V} {u : Value} {Q : Unit → Shared → Prop} (I : Inv X pins σ H s) (e : H a = some (.ins C dx fs)) (c : Cls X.K C) (n : NoAttr X.K C f) (hl : fs.length < 1000) (ry : RelV y u)
   (h : ∀ s', Inv X pins σ (upd H a (.ins C dx (putF f y fs))) s' → Q () s') : wpAny (model X.prog X.w) A (setAttr (.ref a) f u) Q E s := by
 obtain ⟨mA, O, r, wi, _, ho⟩ := ins_get I.hok e
 have hz : (fs.map (·.1)).length ≤ sizeLine := by rw [List.length_map, sizeLine_eq]; omega
 refine set_map I.kIn O c.sa c.po n.taker c.hd wi hz fun h' O' sb => h _ ?_
 have hd : ∃ o, h'.get? dx = some o := let ⟨o, _, _, e', _⟩ := O'.ns; ⟨o, e'⟩
 refine I.write (x := a) (e := dx) (by rw [e]; exact True.intro) (.inr ho) (fun b q hb z => (sb.2 b hb).trans z) hd ?_
 refine ⟨by rw [zK O.ne]; exact ho, ?_, O.ne, O'.obj, _, O'.ns, fun g => ?_, fun g hg => ?_⟩
 · have := length_putF f y fs; omega
 · show RelO ((putF f y fs).lookup g) (if g = f then some u else mA g)
   rw [lookup_putF]
   by_cases q : g = f
   · rw [if_pos q, if_pos q]; exact ry
   · rw [if_neg q, if_neg q]; exact r g
 · by_cases q : g = f
   · rw [q]; exact (keys_putF f y fs).1
   · refine (keys_putF f y fs).2 g (wi g fun z => hg ?_)
     show (if g = f then some u else mA g) = none
     rw [if_neg q]; exact z
theorem Inv.made (I : Inv X pins σ H s) : Inv X pins σ (upd (upd H s.heap.objs.size (.own (s.heap.objs.size + 1))) (s.heap.objs.size + 1) (.ins C s.heap.objs.size []))
   { s with heap := (s.heap.push PySem.W.emptyDict).push (PySem.W.instObj C s.heap.objs.size) } := by
 have e1 : (s.heap.push PySem.W.emptyDict).get? s.heap.objs.size = some PySem.W.emptyDict := Heap.get?_push_size s.heap rfl
 have e2 : ((s.heap.push PySem.W.emptyDict).push (PySem.W.instObj C s.heap.objs.size)).get? (s.heap.objs.size + 1) = some (PySem.W.instObj C s.heap.objs.size) := by
   have := Heap.get?_push_size (s.heap.push PySem.W.emptyDict) (o := PySem.W.instObj C s.heap.objs.size) rfl
   rwa [Heap.size_push] at this
 have e3 : (s.heap.push PySem.W.emptyDict).Ns s.heap.objs.size (fun _ => none) := ⟨PySem.W.emptyDict, #[], _, e1, rfl, (fun e he => absurd he (by simp)), fun _ => rfl⟩
 have I1 := I.laid (a := s.heap.objs.size) (o := .own (s.heap.objs.size + 1)) (h' := s.heap.push PySem.W.emptyDict) (t' := s.toks) (fun b u q => Heap.get?_push_of_some _ q) (Nat.le_refl _) ⟨_, e1⟩
 refine I1.laid (a := s.heap.objs.size + 1) (o := .ins C s.heap.objs.size []) (t' := s.toks) (fun b u q => Heap.get?_push_of_some _ q) (Nat.le_of_eq (Heap.size_push _ _)) ?_
 have ne : s.heap.objs.size ≠ s.heap.objs.size + 1 := Nat.ne_of_lt (Nat.lt_succ_self _)
 refine ⟨by rw [zK ne, zB], Nat.zero_le _, ne, e2, fun _ => none, (Heap.Ns1.of_empty e3).at fun o q => Heap.get?_push_of_some _ q, fun _ => True.intro, fun y hy => absurd rfl hy⟩
theorem attr_of {prog : Program} {w : World} {env : Env} {e : Expr} {f : Str} {pos : Pos} {s : Shared} {Q : Value → Shared → Prop} (hb : attributeBase e f env (eval e env) = eval e env)
   (h : wpAny (model prog w) A (eval e env) (fun o s₁ => wpAny (model prog w) A (getAttr o f true) Q E s₁) E s) : wpAny (model prog w) A (eval (.Attribute e f pos) env) Q E s :=
 Attribute_any_ h (by rw [arm_eval_Attribute, hb])
end
def tFld (K : PySem.W.Frag) (ta : TE) (f : Str) : TE := fun σ H Q => ta σ H fun x H1 => ∃ a C dx fs v, x = .ref a ∧ H1 a = some (.ins C dx fs) ∧ Cls K C ∧ NoAttr K C f ∧ fs.lookup f = some v ∧ Q v H1
def sFld (K : PySem.W.Frag) (ta tv : TE) (f : Str) : TS := fun D σ H => tv σ H fun y H1 => ta σ H1 fun x H2 => ∃ a C dx fs, x = .ref a ∧ H2 a = some (.ins C dx fs) ∧ Cls K C ∧ NoAttr K C f ∧ fs.length < 1000 ∧
 D.nx σ (upd H2 a (.ins C dx (putF f y fs)))
section
variable {X : Cx} {o e value : Expr} {f : Str} {pos pos' tpos : Pos} {ta tv : TE}
theorem zO (he : PE X e ta) (hb : attributeBase e f X.env (eval e X.env) = eval e X.env) : PE X (.Attribute e f pos) (tFld X.K ta f) := by
 intro pins s σ H Q I h
 refine attr_of hb (thn (he pins s σ H _ I h) fun u s1 ⟨x, H1, I1, rx, a, C, dx, fs, v, ex, ea, c, n, l, q⟩ => ?_)
 subst ex
 obtain rfl : u = Value.ref a := rx
 exact getattr_ok I1 ea c n l fun u' s2 I2 ru => ⟨v, H1, I2, ru, q⟩
theorem yV (ha : PE X o ta) (hv : PE X value tv) (hs : swapsWith value (some (.Attribute o f pos')) pos.line X.env = pure false) : PS X (.Assign [.Attribute o f pos'] value pos) (sFld X.K ta tv f) := by
 intro pins s σ H D I h
 refine plainObj_wpAny_Assign_Attribute (thn (hv pins s σ H _ I h) fun u s1 ⟨y, H1, I1, ry, q⟩ => thn (ha pins s1 σ H1 _ I1 q) fun ov s2 ⟨x, H2, I2, rx, a, C, dx, fs, ex, ea, c, n, l, q2⟩ => ?_) hs
 subst ex
 obtain rfl : ov = Value.ref a := rx
 exact setattr_ok I2 ea c n l ry fun s3 I3 => ⟨σ, _, I3, q2⟩
end
section
variable {X : Cx} {pins : List (Addr × Obj)} {σ : St} {H : Hp} {s : Shared} {A : Around} {E : Value → Shared → Prop} {Q : Value → Shared → Prop} {c : Value} {b : Bool}
inductive TyOf (K : PySem.W.Frag) (H : Hp) : V → Value → Prop where
 | non : TyOf K H .non (.type "NoneType")
 | bl (x : Bool) : TyOf K H (.bl x) (.type "bool")
 | int (i : Int) : TyOf K H (.int i) (.type "int")
 | str (x : Str) : TyOf K H (.str x) (.type "str")
 | flt (x : UInt64) : TyOf K H (.flt x) (.type "float")
 | lst {a : Addr} {xs : List V} (e : H a = some (.lst xs)) : TyOf K H (.ref a) (.type "list")
 | frz {a : Addr} {o : Obj} {xs : List V} (e : H a = some (.frz o (.lst xs))) : TyOf K H (.ref a) (.type "list")
 | tup {a : Addr} {xs : List V} (e : H a = some (.tup xs)) : TyOf K H (.ref a) (.type "tuple")
 | dK {a : Addr} {kvs : List (Key × V)} (e : H a = some (.dK kvs)) : TyOf K H (.ref a) (.type "dict")
 | dT {a : Addr} {kvs : List (List Key × V)} (e : H a = some (.dT kvs)) : TyOf K H (.ref a) (.type "dict")
 | ins {a C dx : Addr} {fs : List (Str × V)} (e : H a = some (.ins C dx fs)) (cl : Cls K C) (ha : PySem.W.findIn K (.ref C) "__class__" = some (some (.builtin "object.__class__")))
     (hn : PySem.W.specialIn K (.builtin "object.__class__") "__get__" = some (some (.builtin "getset_descriptor.__get__"))) (htk : PySem.W.takesIn K (.builtin "object.__class__") = some true)
     (hm : PySem.W.mroIn K C (.type "object") = some true) : TyOf K H (.ref a) (.ref C)
end
end L2
namespace L2
open PySem PySem.Spec PyProof.Rows
structure Room (k : Nat) (A : Around) : Prop where
 hd : A.handled = none
 dp : A.depth + 3 * k + 5 < recursionLimit
 un : A.units + 16 * k + 200 < cLine
theorem Room.mono {j k : Nat} {A : Around} (r : Room k A) (h : j ≤ k) : Room j A := ⟨r.hd, by have := r.dp; omega, by have := r.un; omega⟩
theorem Room.deeper {k : Nat} {A : Around} (r : Room (k + 1) A) (env : Env) : Room k (A.deeper env) :=
 ⟨r.hd, by have := r.dp; show A.depth + 1 + 3 * k + 5 < _; omega, by have := r.un; show A.units + 3 + 16 * k + 200 < _; omega⟩
theorem Room.in1 {k : Nat} {A : Around} (r : Room (k + 1) A) : Room k A.in1 :=
 ⟨r.hd, by have := r.dp; show A.depth + 3 * k + 5 < _; omega, by have := r.un; show A.units + 1 + 16 * k + 200 < _; omega⟩
theorem make_depth {A : Around} {C : Addr} {us : List Value} {kw : List (Str × Value)} : (A.under (.builtin "type.__call__" ⟨.ref C :: us, kw⟩)).depth = A.depth + 1 := by
 first | rfl | simp [Around.under, Code.weight, Code.isCreation, Code.isGuard, Code.isCaller, Code.frames, Code.isFrame, guardIds]
theorem make_units {A : Around} {C : Addr} {us : List Value} {kw : List (Str × Value)} : (A.under (.builtin "type.__call__" ⟨.ref C :: us, kw⟩)).units = A.units + 1 := by
 first | rfl | simp [Around.under, Code.cUnits, Code.frames, Code.isFrame]
theorem Room.make {k : Nat} {A : Around} (r : Room (k + 1) A) (C : Addr) (us : List Value) (kw : List (Str × Value)) : Room k (A.under (.builtin "type.__call__" ⟨.ref C :: us, kw⟩)) :=
 ⟨r.hd, by have := r.dp; rw [make_depth]; omega, by have := r.un; rw [make_units]; omega⟩
theorem Room.depth {k : Nat} {A : Around} (r : Room k A) : A.depth < recursionLimit := by have := r.dp; omega
theorem Room.units {k : Nat} {A : Around} (r : Room k A) : A.units + 64 < cLine := by have := r.un; omega
def tNil : TA := fun _ H Q => Q [] H
def tCons (ta : TE) (tr : TA) : TA := fun σ H Q => ta σ H fun x H1 => tr σ H1 fun xs H2 => Q (x :: xs) H2
section
variable {X : Cx} {e : Expr} {es : List Expr} {te : TE} {t : TA} {pos : Pos}
theorem zC : PA X [] tNil := fun _ _ _ _ H Q I h => Calls.spliced_nil ⟨[], H, I, .nil, h⟩
theorem zA (ha : PE X e te) (hr : PA X es t) (hs : starEach (e :: es) X.env = (false, eval e X.env) :: starEach es X.env := by rfl) : PA X (e :: es) (tCons te t) := by
 intro pos pins s σ H Q I h
 rw [hs]
 show wpAny _ _ (spliced ((false, eval e X.env) :: backTo pos (starEach es X.env))) _ _ s
 refine Calls.spliced_cons (thn (ha pins s σ H _ I h) fun u s1 ⟨x, H1, I1, r1, q1⟩ => ?_)
 exact thn (hr pos pins s1 σ H1 _ I1 q1) fun us s2 ⟨xs, H2, I2, r2, q2⟩ => ⟨x :: xs, H2, I2, .cons r1 r2, q2⟩
def tTup (t : TA) : TE := fun σ H Q => t σ H fun xs H1 => xs.length ≤ sizeLine ∧ ∀ p, H1 p = none → Q (.ref p) (upd H1 p (.tup xs))
def tLst (t : TA) : TE := fun σ H Q => t σ H fun xs H1 => xs.length ≤ sizeLine ∧ ∀ p, H1 p = none → Q (.ref p) (upd H1 p (.lst xs))
theorem zM {x1} (h : PA X es t) : PE X (.Tuple es x1 pos) (tTup t) := by
 intro pins s σ H Q I hq
 refine wpAny_Tuple_spliced (thn (h pos pins s σ H _ I hq) fun us s1 ⟨xs, H1, I1, r, z, q⟩ => ⟨by rw [← r.length]; exact z, ?_⟩)
 have hf : H1 s1.heap.objs.size = none := I1.hok.fresh (Nat.le_refl _)
 refine ⟨.ref s1.heap.objs.size, upd H1 s1.heap.objs.size (.tup xs), I1.laid (t' := s1.toks) (fun b u e => Heap.get?_push_of_some _ e) (Nat.le_refl _) ?_, rfl, q _ hf⟩
 exact ⟨z, us, r, ⟨_, Heap.get?_push_size _ rfl, rfl, _, rfl⟩⟩
theorem zQ (h : PA X es t) : PE X (.List es pos) (tLst t) := by
 intro pins s σ H Q I hq
 refine wpAny_List_spliced (thn (h pos pins s σ H _ I hq) fun us s1 ⟨xs, H1, I1, r, z, q⟩ => ⟨by rw [← r.length]; exact z, ?_⟩)
 have hf : H1 s1.heap.objs.size = none := I1.hok.fresh (Nat.le_refl _)
 refine ⟨.ref s1.heap.objs.size, upd H1 s1.heap.objs.size (.lst xs), I1.laid (t' := s1.toks) (fun b u e => Heap.get?_push_of_some _ e) (Nat.le_refl _) ?_, rfl, q _ hf⟩
 exact ⟨z, us, 0, r, Heap.get?_push_size _ rfl⟩
end
abbrev Sp := List V → Hp → VK → XK → Prop
abbrev CXT := List Env → Hp → Shared → XK → Value → Shared → Prop
structure Env0 (P : Program) (w : World) (K : PySem.W.Frag) (mg : Str → Option Value) (base : Heap) (A : Around) (outer : List Env) (s : Shared) (H : Hp) : Prop where
 frames : A.frames = some outer
 mod : Mod K mg base
 bs : ∀ b o, base.get? b = some o → s.heap.get? b = some o ∧ H b = none
 bsz : base.objs.size ≤ s.heap.objs.size
 funs : s.heap.FunFrames base outer
 frf : ∀ b ∈ frs outer, H b = none
 hok : HOk P w H s.heap
 bare : AllBare s.gens
def CE (outer : List Env) (P : Program) (w : World) (H : Hp) (s : Shared) (Q : VK) (u : Value) (s' : Shared) : Prop :=
 ∃ v H', s'.os = s.os ∧ AllBare s'.gens ∧ Un (frs outer) [] H H' s.heap s'.heap ∧ HOk P w H' s'.heap ∧ RelV v u ∧ Q v H'
def CR (CX : CXT) (outer : List Env) (P : Program) (w : World) (H : Hp) (s : Shared) (Q : VK) (E : XK) (r : Result) (s' : Shared) : Prop :=
 match r with
 | .ok (.ret u) => CE outer P w H s Q u s'
 | .ok _ => False
 | .error e => CX outer H s E e s'
structure FnOk (P : Program) (w : World) (K : PySem.W.Frag) (mg : Str → Option Value) (base : Heap) (CX : CXT) (k : Nat) (f : Addr) (fd : FuncData) (ps : List Str) (sp : Sp) : Prop where
 len : ∀ vs H Q E, sp vs H Q E → vs.length = ps.length
 run : ∀ (A : Around) (outer : List Env) (s : Shared) (H : Hp) (args : Args) (us : List Value) (vs : List V) (Q : VK) (E : XK), Room k A → Env0 P w K mg base A outer s H → BindsTo s fd args (ps.zip us) → Vals vs us → sp vs H Q E →
   codeAny (model P w) A (.call (.ref f) args) (CR CX outer P w H s Q E) s
theorem FnOk.mono {P : Program} {w : World} {K : PySem.W.Frag} {mg : Str → Option Value} {base : Heap} {CX : CXT} {j k : Nat} {f : Addr} {fd : FuncData} {ps : List Str} {sp : Sp} (F : FnOk P w K mg base CX j f fd ps sp) (h : j ≤ k) :
   FnOk P w K mg base CX k f fd ps sp := ⟨F.len, fun A outer s H args us vs Q E hr => F.run A outer s H args us vs Q E (hr.mono h)⟩
theorem FnOk.imp {P : Program} {w : World} {K : PySem.W.Frag} {mg : Str → Option Value} {base : Heap} {CX : CXT} {k : Nat} {f : Addr} {fd : FuncData} {ps : List Str} {sp sp' : Sp} (F : FnOk P w K mg base CX k f fd ps sp)
   (h : ∀ vs H Q E, sp' vs H Q E → sp vs H Q E) : FnOk P w K mg base CX k f fd ps sp' :=
 ⟨fun vs H Q E q => F.len vs H Q E (h _ _ _ _ q), fun A outer s H args us vs Q E hr he hb hv hs => F.run A outer s H args us vs Q E hr he hb hv (h _ _ _ _ hs)⟩
theorem Env0.make {P : Program} {w : World} {K : PySem.W.Frag} {mg : Str → Option Value} {base : Heap} {A : Around} {outer : List Env} {s : Shared} {H : Hp} (e : Env0 P w K mg base A outer s H) (C : Addr) (us : List Value) (kw : List (Str × Value)) :
   Env0 P w K mg base (A.under (.builtin "type.__call__" ⟨.ref C :: us, kw⟩)) outer s H := ⟨by first | exact e.frames | (simpa [Around.under, Code.envs, Code.isFrame, pushEnvs] using e.frames), e.mod, e.bs, e.bsz, e.funs, e.frf, e.hok, e.bare⟩
theorem Env0.in1 {P : Program} {w : World} {K : PySem.W.Frag} {mg : Str → Option Value} {base : Heap} {A : Around} {outer : List Env} {s : Shared} {H : Hp} (e : Env0 P w K mg base A outer s H) :
   Env0 P w K mg base A.in1 outer s H := ⟨e.frames, e.mod, e.bs, e.bsz, e.funs, e.frf, e.hok, e.bare⟩
section
variable {X : Cx} {pins : List (Addr × Obj)} {σ : St} {H : Hp} {s s' : Shared}
theorem Inv.env0 (I : Inv X pins σ H s) : Env0 X.prog X.w X.K X.mg X.base X.A X.stack s H :=
 ⟨I.ok.frames, I.ok.mod, I.bs, Nat.le_trans I.ok.bsz I.sz, I.stack, I.stkFree, I.hok, I.bare⟩
theorem Inv.after {Q : VK} {u : Value} (I : Inv X pins σ H s) (h : CE X.stack X.prog X.w H s Q u s') : EP X pins σ Q u s' := by
 obtain ⟨v, H', os, bare, un, hok, r, q⟩ := h
 obtain ⟨hh, g, d, t, os'⟩ := s'
 obtain rfl : os' = s.os := os
 exact ⟨v, H', I.call (h' := hh) (g' := g) (d' := d) (t' := t) (ch := []) un hok bare (fun b z => absurd z (by simp)), r, q⟩
end
def tCall (sp : Sp) (dvs : List V) (E : XK) (t : TA) : TE := fun σ H Q => t σ H fun vs H1 => sp (vs ++ dvs) H1 Q E
def tMake (C : Addr) (sp : Sp) (dvs : List V) (E : XK) (t : TA) : TE := fun σ H Q => t σ H fun vs H1 => ∀ x dx, H1 x = none → H1 dx = none → dx ≠ x →
 sp (.ref x :: (vs ++ dvs)) (upd (upd H1 dx (.own x)) x (.ins C dx [])) (fun v H2 => v = .non ∧ Q (.ref x) H2) E
def Binds (K : PySem.W.Frag) (fd : FuncData) (ps : List Str) (ds : List Value) : Prop :=
 ∀ (s : Shared) (us : List Value), K.In s.heap → (us ++ ds).length = ps.length → BindsTo s fd ⟨us, []⟩ (ps.zip (us ++ ds))
theorem Binds.all {K : PySem.W.Frag} {fd : FuncData} {ps : List Str} (h : ∀ us : List Value, us.length = ps.length → bindArgs fd ⟨us, []⟩ = pure (ps.zip us)) : Binds K fd ps [] := fun s us _ hl => by
 rw [List.append_nil] at hl ⊢
 exact .of_eq (h us hl)
def Passes (CX : CXT) (X : Cx) (E : XK) : Prop := ∀ (pins : List (Addr × Obj)) (σ : St) (H : Hp) (s : Shared) (e : Value) (s' : Shared), Inv X pins σ H s → CX X.stack H s E e s' → X.xe e s'
section
variable {X : Cx} {CX : CXT} {k : Nat} {f C : Addr} {fd : FuncData} {ps : List Str} {sp : Sp} {dvs : List V} {ds : List Value} {E : XK} {x m : Str} {p pos apos : Pos} {e o : Expr} {es : List Expr} {ta : TE} {t : TA}
theorem run_fn {pins : List (Addr × Obj)} {σ : St} {H : Hp} {s : Shared} {Q : VK} {us : List Value} {vs : List V} (F : FnOk X.prog X.w X.K X.mg X.base CX k f fd ps sp) (hr : Room k X.A) (hb : Binds X.K fd ps ds) (hd : Vals dvs ds) (hx : Passes CX X E)
   (I : Inv X pins σ H s) (r : Vals vs us) (h : sp (vs ++ dvs) H Q E) : wpAny (model X.prog X.w) X.A (call (.ref f) us) (EP X pins σ Q) X.xe s := by
 have r2 : Vals (vs ++ dvs) (us ++ ds) := r.append hd
 have hl : (us ++ ds).length = ps.length := by rw [← r2.length]; exact F.len _ _ _ _ h
 refine wpAny_call (codeAny_mono (F.run X.A X.stack s H ⟨us, []⟩ (us ++ ds) (vs ++ dvs) Q E hr I.env0 (hb s us I.kIn hl) r2 h) fun r s' hq => ?_)
 cases r with
 | error e => exact hx pins σ H s e s' I hq
 | ok fl =>
   cases fl with
   | ret u => exact I.after hq
   | next => exact False.elim hq
   | brk => exact False.elim hq
   | cont => exact False.elim hq
theorem zV (F : FnOk X.prog X.w X.K X.mg X.base CX k f fd ps sp) (hr : Room k X.A) (hg : Gl X x) (hm : X.mg x = some (.ref f)) (hk : PySem.W.keepIn X.K (.ref f) = true) (hb : Binds X.K fd ps ds) (hd : Vals dvs ds) (hx : Passes CX X E)
   (ha : PA X (e :: es) t) (hdb : (x == ("__debug__" : Str)) = false := by decide) (he : starEach (e :: es) X.env = (false, eval e X.env) :: starEach es X.env := by rfl) (hpl : (backTo pos (starEach es X.env)).any (·.1) = false := by rfl) :
   PE X (.Call (.Name x p) (e :: es) [] pos) (tCall sp dvs E t) := by
 intro pins s σ H Q I h
 refine wpAny_Call_Name_kw (xO I hg hm ?_ hdb)
 refine PySem.W.callWith_K (h₀ := X.base) I.ok.mod.kin hk (thn (ha pos pins s σ H _ I h) fun us s1 ⟨vs, H1, I1, r, q⟩ => ⟨I1.kIn, ?_⟩) he hpl
 exact run_fn F hr hb hd hx I1 r q
structure Mk (K : PySem.W.Frag) (C f : Addr) : Prop where
 makes : PySem.W.makesIn K C = true
 init : PySem.W.findIn K (.ref C) "__init__" = some (some (.ref f))
 fn : PySem.W.isFn K (.ref f) = true
 kp : PySem.W.keepIn K (.ref C) = true
theorem run_make {pins : List (Addr × Obj)} {σ : St} {H : Hp} {s : Shared} {Q : VK} {us : List Value} {vs : List V} (M : Mk X.K C f) (F : FnOk X.prog X.w X.K X.mg X.base CX k f fd ps sp) (hr : Room (k + 1) X.A) (hb : Binds X.K fd ps ds) (hd : Vals dvs ds)
   (hx : Passes CX X E) (I : Inv X pins σ H s) (r : Vals vs us)
   (h : ∀ x dx, H x = none → H dx = none → dx ≠ x → sp (.ref x :: (vs ++ dvs)) (upd (upd H dx (.own x)) x (.ins C dx [])) (fun v H2 => v = .non ∧ Q (.ref x) H2) E) :
   wpAny (model X.prog X.w) X.A (call (.ref C) us) (EP X pins σ Q) X.xe s := by
 have hq := h (s.heap.objs.size + 1) s.heap.objs.size (I.hok.fresh (Nat.le_succ _)) (I.hok.fresh (Nat.le_refl _)) (Nat.ne_of_lt (Nat.lt_succ_self _))
 have I2 := Inv.made (C := C) I
 have r2 : Vals (V.ref (s.heap.objs.size + 1) :: (vs ++ dvs)) (Value.ref (s.heap.objs.size + 1) :: (us ++ ds)) := .cons rfl (r.append hd)
 have hl : (Value.ref (s.heap.objs.size + 1) :: us ++ ds).length = ps.length := by
   have e := r2.length
   rw [F.len _ _ _ _ hq] at e
   exact e.symm
 refine wpAny_call (make_map (f := f) I.kIn M.makes M.init (beq_iff_eq.mp M.fn) (codeAny_mono (F.run _ X.stack _ _ ⟨Value.ref (s.heap.objs.size + 1) :: us, []⟩ (Value.ref (s.heap.objs.size + 1) :: (us ++ ds)) _ _ E (hr.make C us [])
   (I2.env0.make C us []) (hb _ (Value.ref (s.heap.objs.size + 1) :: us) I2.kIn hl) r2 hq) fun r s' hq' => ?_))
 cases r with
 | error e => exact hx pins σ _ _ e s' I2 hq'
 | ok fl =>
   cases fl with
   | ret u =>
     obtain ⟨v, H', I3, rv, ev, q3⟩ := I2.after hq'
     subst ev
     exact ⟨rv, ⟨V.ref (s.heap.objs.size + 1), H', I3, rfl, q3⟩⟩
   | next => exact False.elim hq'
   | brk => exact False.elim hq'
   | cont => exact False.elim hq'
theorem yZ (M : Mk X.K C f) (F : FnOk X.prog X.w X.K X.mg X.base CX k f fd ps sp) (hr : Room (k + 1) X.A) (hg : Gl X x) (hm : X.mg x = some (.ref C)) (hb : Binds X.K fd ps ds) (hd : Vals dvs ds) (hx : Passes CX X E)
   (ha : PA X (e :: es) t) (hdb : (x == ("__debug__" : Str)) = false := by decide) (he : starEach (e :: es) X.env = (false, eval e X.env) :: starEach es X.env := by rfl) (hpl : (backTo pos (starEach es X.env)).any (·.1) = false := by rfl) :
   PE X (.Call (.Name x p) (e :: es) [] pos) (tMake C sp dvs E t) := by
 intro pins s σ H Q I h
 refine wpAny_Call_Name_kw (xO I hg hm ?_ hdb)
 refine PySem.W.callWith_K (h₀ := X.base) I.ok.mod.kin M.kp (thn (ha pos pins s σ H _ I h) fun us s1 ⟨vs, H1, I1, r, q⟩ => ⟨I1.kIn, ?_⟩) he hpl
 exact run_make M F hr hb hd hx I1 r q
theorem pe_make0 (M : Mk X.K C f) (F : FnOk X.prog X.w X.K X.mg X.base CX k f fd ps sp) (hr : Room (k + 1) X.A) (hg : Gl X x) (hm : X.mg x = some (.ref C)) (hb : Binds X.K fd ps ds) (hd : Vals dvs ds) (hx : Passes CX X E)
   (hdb : (x == ("__debug__" : Str)) = false := by decide) : PE X (.Call (.Name x p) [] [] pos) (tMake C sp dvs E tNil) := by
 intro pins s σ H Q I h
 refine wpAny_Call_Name_kw (xO I hg hm ?_ hdb)
 exact PySem.W.callWith_K0 I.kIn M.kp (run_make (us := []) M F hr hb hd hx I .nil h)
end
section
variable {X : Cx} {CX : CXT} {k : Nat} {f C : Addr} {fd : FuncData} {ps ks : List Str} {sp : Sp} {E : XK} {x m : Str} {p pos apos kpos : Pos} {e o : Expr} {es : List Expr} {kws : List Keyword} {te ta : TE} {t tk : TA} {nm : Option Str}
structure KBinds (K : PySem.W.Frag) (fd : FuncData) (ps ks : List Str) (g : List Value → List Value → List Value) (gV : List V → List V → List V) : Prop where
 to : ∀ (s : Shared) (us ws : List Value), K.In s.heap → (g us ws).length = ps.length → BindsTo s fd ⟨us, ks.zip ws⟩ (ps.zip (g us ws))
 rel : ∀ {vs : List V} {us : List Value} {zs : List V} {ws : List Value}, Vals vs us → Vals zs ws → Vals (gV vs zs) (g us ws)
variable {g : List Value → List Value → List Value} {gV : List V → List V → List V}
end
structure FnScope (N P : List Str) (sc : Scope) : Prop where
 kind : sc.kind = .function
 co : sc.isCoroutine = false
 gen : sc.isGenerator = false
 nd : N.Nodup
 pre : N.take P.length = P
 par : ∀ x ∈ P, sc.names.lookup x = some .local ∨ sc.names.lookup x = some .cell
 nofree : ∀ y ∈ sc.names, y.2 ≠ .free
theorem bindL_out {kindOf : Str → Option NameKind} {x : Str} : ∀ {binds : List (Str × Value)} {m : Str → Option Value}, (∀ v, (x, v) ∉ binds) → bindL kindOf binds m x = m x
 | [], _, _ => rfl
 | (n, v) :: r, m, h => by
   unfold bindL
   rw [bindL_out fun w hw => h w (List.mem_cons_of_mem _ hw)]
   split
   · have : x ≠ n := by rintro rfl; exact h v List.mem_cons_self
     simp [this]
   · rfl
theorem bindC_out {kindOf : Str → Option NameKind} {x : Str} : ∀ {binds : List (Str × Value)} {m : Str → Option Value}, (∀ v, (x, v) ∉ binds) → bindC kindOf binds m x = m x
 | [], _, _ => rfl
 | (n, v) :: r, m, h => by
   unfold bindC
   rw [bindC_out fun w hw => h w (List.mem_cons_of_mem _ hw)]
   split
   · rfl
   · have : x ≠ n := by rintro rfl; exact h v List.mem_cons_self
     simp [this]
theorem bindL_get {kindOf : Str → Option NameKind} {x : Str} {v : Value} : ∀ {P : List Str} {vs : List Value} {i : Nat} {m : Str → Option Value}, P.Nodup → P[i]? = some x → vs[i]? = some v → kindOf x = some .local →
   bindL kindOf (P.zip vs) m x = some v
 | [], _, _, _, _, h, _, _ => by simp at h
 | _ :: _, [], _, _, _, _, h, _ => by simp at h
 | p :: P, w :: vs, 0, m, nd, h1, h2, hk => by
   simp at h1 h2; subst h1; subst h2
   show bindL kindOf ((p, w) :: P.zip vs) m p = _
   unfold bindL
   rw [bindL_out fun v hv => (List.nodup_cons.mp nd).1 (List.of_mem_zip hv).1, if_pos hk]
   simp
 | p :: P, w :: vs, i + 1, m, nd, h1, h2, hk => by
   show bindL kindOf ((p, w) :: P.zip vs) m x = _
   unfold bindL
   exact bindL_get (i := i) (List.nodup_cons.mp nd).2 (by simpa using h1) (by simpa using h2) hk
theorem bindC_get {kindOf : Str → Option NameKind} {x : Str} {v : Value} : ∀ {P : List Str} {vs : List Value} {i : Nat} {m : Str → Option Value}, P.Nodup → P[i]? = some x → vs[i]? = some v → kindOf x ≠ some .local →
   bindC kindOf (P.zip vs) m x = some v
 | [], _, _, _, _, h, _, _ => by simp at h
 | _ :: _, [], _, _, _, _, h, _ => by simp at h
 | p :: P, w :: vs, 0, m, nd, h1, h2, hk => by
   simp at h1 h2; subst h1; subst h2
   show bindC kindOf ((p, w) :: P.zip vs) m p = _
   unfold bindC
   rw [bindC_out fun v hv => (List.nodup_cons.mp nd).1 (List.of_mem_zip hv).1, if_neg hk]
   simp
 | p :: P, w :: vs, i + 1, m, nd, h1, h2, hk => by
   show bindC kindOf ((p, w) :: P.zip vs) m x = _
   unfold bindC
   exact bindC_get (i := i) (List.nodup_cons.mp nd).2 (by simpa using h1) (by simpa using h2) hk
def start (N : List Str) (vs : List V) : St := vs.map some ++ List.replicate (N.length - vs.length) none
def cxOf (CX : CXT) (P : Program) (w : World) (K : PySem.W.Frag) (mg : Str → Option Value) (base : Heap) (N : List Str) (qual : Str) (scope : Scope) (f : Addr) (cd : Value) (A : Around) (outer : List Env) (s : Shared) (H : Hp) (E : XK) : Cx where
 prog := P
 w := w
 K := K
 mg := mg
 base := base
 A := A.deeper (envOfC qual scope s.heap.objs.size f cd)
 N := N
 s₀ := s
 H₀ := H
 env := envOfC qual scope s.heap.objs.size f cd
 outer := outer
 stack := envOfC qual scope s.heap.objs.size f cd :: outer
 ex := []
 calm := true
 fn := fun _ => true
 pn := []
 xe := fun e s' => wpAny (model P w) (A.deeper (envOfC qual scope s.heap.objs.size f cd)) (leaving (envOfC qual scope s.heap.objs.size f cd) e) (fun _ s'' => CX outer H s E e s'') (fun e' s'' => CX outer H s E e' s'') s'
theorem cell_has {sc : Scope} {n : Nat} {x : Str} (h : sc.names.lookup x = some .cell) : ∃ c, (cellsFrom n sc.names []).lookup x = some c := by
 have q := PySem.W.cellsFrom_some sc.names n [] (.inl h)
 exact Option.isSome_iff_exists.mp q
theorem inv_start {CX : CXT} {P : Program} {w : World} {K : PySem.W.Frag} {mg : Str → Option Value} {base : Heap} {N ps : List Str} {qual : Str} {scope : Scope} {f : Addr} {cd : Value} {A : Around} {outer : List Env} {s s1 : Shared} {H : Hp} {E : XK} {us : List Value} {vs : List V}
   (S : FnScope N ps scope) (hd : A.handled = none) (e0 : Env0 P w K mg base A outer s H) (hl : vs.length = ps.length) (r : Vals vs us)
   (x : InCallC s s.heap.objs.size (bindL (envOfC qual scope s.heap.objs.size f cd).kindOf (ps.zip us) fun _ => none) (cellsFrom (s.heap.objs.size + 1) scope.names []) (bindC (envOfC qual scope s.heap.objs.size f cd).kindOf (ps.zip us) fun _ => none) s1) :
   Inv (cxOf CX P w K mg base N qual scope f cd A outer s H E) [] (start N vs) H s1 := by
 have hpl : ps.length ≤ N.length := by have := congrArg List.length S.pre; rw [List.length_take] at this; omega
 obtain ⟨h1, tk, rfl, hk⟩ := x.done
 have noA : ∀ b : Addr, b ∉ (cxOf CX P w K mg base N qual scope f cd A outer s H E).ex := fun b z => absurd (show b ∈ ([] : List Addr) from z) (by simp)
 refine ⟨⟨e0.mod, S.kind, rfl, rfl, Nat.le_refl _, fun y z c h1 h2 => ?_, fun y hy => ?_, fun y c _ h => ?_, fun _ => hd, Around.frames_deeper e0.frames, .inr ⟨rfl, rfl⟩, fun b z => absurd z (noA b), e0.bs, e0.bsz, fun b _ _ => noA b, fun b z => absurd z (noA b), e0.funs, e0.frf⟩,
   rfl, e0.bare, Un.kept hk, ⟨_, x.toInCall.ns, fun i y v h1 h2 h3 => ?_⟩, fun y c h => ⟨_, x.cell y c h⟩, e0.hok.fresh (Nat.le_refl _), fun y c h => ?_, fun p hp => absurd (show p ∈ ([] : List (Addr × Obj)) from hp) (by simp), e0.hok.kept hk, ?_⟩
 · exact name_of_addr x.apart (PySem.mem_of_lookup h1) (PySem.mem_of_lookup h2)
 · have hy : scope.names.lookup y = some .cell ∨ scope.names.lookup y = some .free := hy
   rcases hy with hy | hy
   · exact cell_has hy
   · exact absurd rfl (S.nofree _ (PySem.mem_of_lookup hy))
 · exact Nat.le_of_lt (x.above y c (PySem.mem_of_lookup h))
 · have hi : i < vs.length := by
     unfold start at h2
     by_cases hi : i < vs.length
     · exact hi
     · rw [List.getElem?_append_right (by simpa using hi)] at h2
       rw [List.getElem?_replicate] at h2
       split at h2 <;> cases h2
   have ha : vs[i]? = some v := by
     unfold start at h2
     rw [List.getElem?_append_left (by simpa using hi), List.getElem?_map] at h2
     cases e : vs[i]? with
     | none => rw [e] at h2; cases h2
     | some a => rw [e] at h2; cases h2; rfl
   obtain ⟨u, hu, rv⟩ := r.get ha
   have hp : ps[i]? = some y := by
     rw [← S.pre, List.getElem?_take_of_lt (by omega)]; exact h1
   have ndP : ps.Nodup := by rw [← S.pre]; exact S.nd.sublist (List.take_sublist _ _)
   refine ⟨u, rv, ?_⟩
   rcases S.par y (List.mem_of_getElem? hp) with k | k
   · exact .inl ⟨k, bindL_get ndP hp hu k⟩
   · obtain ⟨c, e⟩ := cell_has (n := s.heap.objs.size + 1) k
     refine .inr ⟨.inl k, c, e, ?_⟩
     have q := x.cell y c e
     rw [bindC_get ndP hp hu (by show scope.names.lookup y ≠ _; rw [k]; decide)] at q
     exact q
 · exact e0.hok.fresh (Nat.le_of_lt (x.above y c (PySem.mem_of_lookup h)))
 · unfold start
   show _ = N.length
   rw [List.length_append, List.length_map, List.length_replicate]
   omega
theorem fn_of {CX : CXT} {P : Program} {w : World} {K : PySem.W.Frag} {mg : Str → Option Value} {base : Heap} {k : Nat} {f : Addr} {name qual : Str} {params : Arguments} {body : List Stmt} {scope : Scope} {dV kV doc pm cdv ct oc : Value} {an od : Option Addr}
   {osl : Array (Option Value)} {N ps : List Str} {sp : Sp} (lk : K.lookup f = some ⟨oc, od, .func (PySem.W.fnOf name qual params body scope dV kV doc pm an cdv ct), osl⟩) (hcd : PySem.W.codeIn K cdv qual = true) (S : FnScope N ps scope)
   (len : ∀ vs H Q E, sp vs H Q E → vs.length = ps.length)
   (hbody : ∀ (A : Around) (outer : List Env) (s : Shared) (H : Hp) (vs : List V) (Q : VK) (E : XK), Room k (A.deeper (envOfC qual scope s.heap.objs.size f cdv)) → sp vs H Q E →
     ∃ t, PSs (cxOf CX P w K mg base N qual scope f cdv A outer s H E) body t ∧ t { nx := fun _ H' => Q .non H', rt := Q } (start N vs) H) :
   FnOk P w K mg base CX (k + 1) f (PySem.W.fnOf name qual params body scope dV kV doc pm an cdv ct) ps sp := by
 refine ⟨len, fun A outer s H args us vs Q E hr e0 hb r hsp => ?_⟩
 have hl := len _ _ _ _ hsp
 have KX : K.In s.heap := e0.mod.kin.keeps fun b o e => (e0.bs b o e).1
 have lim : s.heap.NoLimit := e0.mod.nolimit.keeps fun b o e => (e0.bs b o e).1
 have hkind : ∀ y ∈ ps.zip us, scope.names.lookup y.1 = some .local ∨ (scope.names.lookup y.1 = some .cell ∧ ((cellsFrom (s.heap.objs.size + 1) scope.names []).lookup y.1).isSome = true) := fun ⟨n, v⟩ hy => by
   rcases S.par n (List.of_mem_zip hy).1 with q | q
   · exact .inl q
   · exact .inr ⟨q, PySem.W.cellsFrom_some _ _ _ (.inl q)⟩
 refine codeAny_call_function hr.depth (KX _ _ lk) rfl S.co S.gen rfl (PySem.W.codeRec_of KX hcd) (hb _ _ _ _ ?_)
 refine wpAny_newFunctionEnv_cells S.kind hkind fun env he s1 x => ?_
 subst he
 refine ⟨lim.keeps x.toInCall.keep, codeAny_func ?_⟩
 obtain ⟨t, ht, hq⟩ := hbody A outer s H vs Q E (hr.deeper _) hsp
 have I : Inv (cxOf CX P w K mg base N qual scope f cdv A outer s H E) [] (start N vs) H s1 := inv_start S hr.hd e0 hl r x
 refine wpAny_mono (ht [] s1 (start N vs) H _ I hq) (fun fl s' hs => ?_) fun e s' hs => hs
 have fin : ∀ {σ' : St} {H' : Hp} {v : V} {u : Value}, Inv (cxOf CX P w K mg base N qual scope f cdv A outer s H E) [] σ' H' s' → RelV v u → Q v H' → CE outer P w H s Q u s' :=
   fun {σ' H' v u} J rv q => ⟨v, H', J.os, J.bare, J.base, J.hok, rv, q⟩
 cases fl with
 | ret u =>
   obtain ⟨v, σ', H', J, rv, q⟩ := hs
   exact fin J rv q
 | next =>
   obtain ⟨σ', H', J, q⟩ := hs
   exact fin (v := V.non) (u := Value.none) J rfl q
 | brk =>
   obtain ⟨_, _, _, q⟩ := hs
   exact False.elim q
 | cont =>
   obtain ⟨_, _, _, q⟩ := hs
   exact False.elim q
end L2
namespace L2
open PySem PySem.Spec PyProof.Rows
section
variable {X : Cx} {x : Str} {p pos : Pos} {e : Expr} {es : List Expr} {t : TA} {id T : String} {r : List V → Hp → VK → Prop}
def tCB (r : List V → Hp → VK → Prop) (t : TA) : TE := fun σ H Q => t σ H fun vs H1 => r vs H1 Q
theorem yA (hc : CallR X (.builtin id) r) (hg : Gl X x) (hm : X.mg x = none) (hv : bootBuiltins x = some (.builtin id)) (ha : PA X (e :: es) t) (hn : x ≠ "__name__" := by decide) (hdb : (x == ("__debug__" : Str)) = false := by decide)
   (he : starEach (e :: es) X.env = (false, eval e X.env) :: starEach es X.env := by rfl) (hpl : (backTo pos (starEach es X.env)).any (·.1) = false := by rfl) : PE X (.Call (.Name x p) (e :: es) [] pos) (tCB r t) := by
 intro pins s σ H Q I h
 refine wpAny_Call_Name_kw (ld_blt I hg hm hv ?_ hn hdb)
 exact PyProof.Rows.callWith_builtin1 (thn (ha pos pins s σ H _ I h) fun us s1 ⟨vs, H1, I1, r1, q1⟩ => hc pins s1 σ H1 vs us Q I1 r1 q1) he hpl
theorem yH (hc : CallR X (.type T) r) (hg : Gl X x) (hm : X.mg x = none) (hv : bootBuiltins x = some (.type T)) (ha : PA X (e :: es) t) (hn : x ≠ "__name__" := by decide) (hdb : (x == ("__debug__" : Str)) = false := by decide)
   (he : starEach (e :: es) X.env = (false, eval e X.env) :: starEach es X.env := by rfl) (hpl : (backTo pos (starEach es X.env)).any (·.1) = false := by rfl) : PE X (.Call (.Name x p) (e :: es) [] pos) (tCB r t) := by
 intro pins s σ H Q I h
 refine wpAny_Call_Name_kw (ld_blt I hg hm hv ?_ hn hdb)
 exact PyProof.Rows.callWith_type1 (thn (ha pos pins s σ H _ I h) fun us s1 ⟨vs, H1, I1, r1, q1⟩ => hc pins s1 σ H1 vs us Q I1 r1 q1) he hpl
end
end L2
namespace HT
open PySem PyProof.Rows
def lexLt : List Int → List Int → Bool
 | [], [] => false
 | [], _ :: _ => true
 | _ :: _, [] => false
 | x :: xs, y :: ys => if x = y then lexLt xs ys else decide (x < y)
theorem lexLt_cons (x y : Int) (xs ys : List Int) : lexLt (x :: xs) (y :: ys) = if x = y then lexLt xs ys else decide (x < y) := rfl
theorem lexLt_nil_nil : lexLt [] [] = false := rfl
theorem lexLt_nil_cons (y : Int) (ys : List Int) : lexLt [] (y :: ys) = true := rfl
theorem lexLt_cons_nil (x : Int) (xs : List Int) : lexLt (x :: xs) [] = false := rfl
theorem eqAt_int (A : Around) (s : Shared) (a : Int) (t : Tok) (c : Int) (u : Tok) : ∃ e, SeqAt.EqAt A s (.int a t) (.int c u) e ∧ (e = true ↔ a = c) :=
 ⟨(a == c), SeqAt.EqAt.int_int a t c u, by simp⟩
theorem rcLt_int (A : Around) (s : Shared) (a : Int) (t : Tok) (c : Int) (u : Tok) (prog : Program) (w : World) (E : Value → Shared → Prop) (Q : Value → Shared → Prop) (h : Q (.bool (decide (a < c))) s) :
   wpAny (model prog w) A (richCompare .Lt (.int a t) (.int c u)) Q E s :=
 (PyProof.Rows.lt_int h : wpAny (model prog w) A (compareOp .Lt (.int a t) (.int c u)) Q E s)
section
open PySem.SeqAt
open PySem.AutoSeq1 (wpAny_loadPart')
open PySem.MeetsSeq PySem.MeetsSeq2 PySem.MeetsSeq3
theorem tuple_lt_ints (l b : Addr) (items items2 : Array Value) (n n2 : Nat) (dd dd2 : Option Addr) (sl sl2 : Array (Option Value)) (ns ms : List Int) (hi : IntsAre items.toList ns) (hj : IntsAre items2.toList ms) :
   Meets (Builtin.«tuple.__lt__» ⟨[.ref l, .ref b], []⟩)
     (fun _ R s => s.heap.get? l = some { cls := .type "tuple", dict := dd, data := .seq items n, slots := sl } ∧ s.heap.get? b = some { cls := .type "tuple", dict := dd2, data := .seq items2 n2, slots := sl2 } ∧
       R (.ok (.ret (.bool (lexLt ns ms)))) s) :=
 .of_wp fun prog w A R s h => by
   obtain ⟨hp, g, d, tk, os⟩ := s; obtain ⟨hl, hb, h⟩ := h
   have f2 := AutoSeq1.sub_tuple_tuple
   have z1 : items.size = ns.length := by rw [← hi.length]; simp
   have z2 : items2.size = ms.length := by rw [← hj.length]; simp
   wp_walk using wpAny_loadPart' hl, wpAny_loadPart' hb, wpAny_forIn_list _ (fun rest b s' => b.1 = none ∧ s' = ⟨hp, g, d, tk, os⟩ ∧ ∃ (vs ws : List Value) (ns' ms' : List Int), rest = vs.zip ws ∧
     IntsAre vs ns' ∧ IntsAre ws ms' ∧ ns'.length + items2.size = ms'.length + items.size ∧ R (.ok (.ret (.bool (lexLt ns' ms')))) ⟨hp, g, d, tk, os⟩) _
   case turn =>
     rintro ⟨y, x⟩ rest b s' ⟨hb', rfl, vs, ws, ns', ms', hz, hvi, hwi, hlen, hR⟩
     cases hvi with
     | nil => rw [List.zip_nil_left] at hz; cases hz
     | cons a t hvi' =>
       cases hwi with
       | nil => rw [List.zip_nil_right] at hz; cases hz
       | cons c u hwi' =>
         rw [List.zip_cons_cons] at hz
         injection hz with hyx hrest
         injection hyx with hy hx
         subst hy hx
         rw [lexLt_cons] at hR
         simp only [List.length_cons] at hlen
         obtain ⟨e, he, hiff⟩ := eqAt_int A.in1 ⟨hp, g, d, tk, os⟩ a t c u
         refine wpAny_bind (he prog w _ _ ?_)
         cases e with
         | true =>
           rw [if_pos (hiff.mp rfl)] at hR
           wp_walk
           exact ⟨rfl, rfl, _, _, _, _, hrest, hvi', hwi', by omega, hR⟩
         | false =>
           rw [if_neg (fun q => absurd (hiff.mpr q) Bool.false_ne_true)] at hR
           have hri := rcLt_int A.in1 ⟨hp, g, d, tk, os⟩ a t c u prog w
           wp_walk using hri
           exact ⟨_, rfl, by simpa using hR⟩
   case fin =>
     rintro ⟨b1, b2⟩ s' ⟨hb', rfl, vs, ws, ns', ms', hz, hvi, hwi, hlen, hR⟩
     simp only at hb'
     subst hb'
     have hv : lexLt ns' ms' = decide (items.size < items2.size) := by
       cases hvi with
       | nil =>
         cases hwi with
         | nil =>
           simp only [List.length_nil] at hlen
           rw [lexLt_nil_nil]
           exact (decide_eq_false (by omega)).symm
         | cons c u hw =>
           simp only [List.length_nil, List.length_cons] at hlen
           rw [lexLt_nil_cons]
           exact (decide_eq_true (by omega)).symm
       | cons a t hv =>
         cases hwi with
         | nil =>
           simp only [List.length_nil, List.length_cons] at hlen
           rw [lexLt_cons_nil]
           exact (decide_eq_false (by omega)).symm
         | cons c u hw =>
           rw [List.zip_cons_cons] at hz
           cases hz
     rw [hv] at hR
     wp_walk
     exact ⟨_, rfl, by simpa [Builtin.Tuple.tupleCompareSizes] using hR⟩
   case h =>
     exact ⟨rfl, rfl, items.toList, items2.toList, ns, ms, rfl, hi, hj, by omega, h⟩
end
section
variable {prog : Program} {w : World} {A : Around} {E : Value → Shared → Prop} {s : Shared}
theorem lt_tupInts {l b : Addr} {items items2 : Array Value} {ns ms : List Int} {Q : Value → Shared → Prop} (hl : IsTup s.heap l items) (hb : IsTup s.heap b items2) (hi : IntsAre items.toList ns) (hj : IntsAre items2.toList ms)
   (hu : A.units < cLine) (h : Q (.bool (lexLt ns ms)) s) : wpAny (model prog w) A (compareOp .Lt (.ref l) (.ref b)) Q E s := by
 obtain ⟨⟨cls, dd, data, sl⟩, ho, hc, n, hd⟩ := id hl
 obtain ⟨⟨cls2, dd2, data2, sl2⟩, ho2, hc2, n2, hd2⟩ := id hb
 simp only at hc hd hc2 hd2
 subst hc hd hc2 hd2
 exact richCompare_meets_room (op := .Lt) ⟨_, ho, rfl⟩ ⟨_, ho2, rfl⟩ PySem.F.slot_tuple_lt PySem.F.entry_tuple_lt (PySem.F.args_tuple_lt_2 _ _) (tuple_lt_ints l b items items2 n n2 dd dd2 sl sl2 ns ms hi hj)
   ⟨ho, ho2, show Value.bool (lexLt ns ms) ≠ Value.notImplemented ∧ Q (.bool (lexLt ns ms)) s from ⟨(fun x => nomatch x), h⟩⟩ hu
def sIx (n d : Nat) : Option Int → Nat
 | none => d
 | some v => if v < 0 then (v + (n : Int)).toNat else min v.toNat n
end
end HT
namespace L2
open PySem PySem.Spec PyProof.Rows
abbrev TO := St → Hp → (Option Int → Hp → Prop) → Prop
def PO (X : Cx) (e : Option Expr) (t : TO) : Prop :=
 ∀ (pins : List (Addr × Obj)) (s : Shared) (σ : St) (H : Hp) (Q : Option Int → Hp → Prop), Inv X pins σ H s → t σ H Q →
   wpAny (model X.prog X.w) X.A (evalPart e X.env) (fun u s' => ∃ o H', Inv X pins σ H' s' ∧ IsPart u o ∧ Q o H') X.xe s
def tNoPart : TO := fun _ H Q => Q none H
def tPart (t : TE) : TO := fun σ H Q => t σ H fun x H1 => ∃ i, x = .int i ∧ Q (some i) H1
theorem intsAre_of {ns : List Int} : ∀ {us : List Value}, Vals (ns.map V.int) us → IntsAre us ns := by
 induction ns with
 | nil => intro us r; rw [List.map_nil] at r; cases r; exact .nil
 | cons n ns ih =>
   intro us r
   rw [List.map_cons] at r
   cases r with
   | cons r1 r2 =>
     obtain ⟨t, e⟩ := r1
     subst e
     exact .cons n t (ih r2)
section
variable {X : Cx} {e : Expr} {te : TE} {lo hi : Option Expr} {tl th : TO} {pos p2 : Pos}
theorem po_none : PO X none tNoPart := by
 intro pins s σ H Q I h
 rw [evalPart_none]
 exact wpAny_pure ⟨none, H, I, .none, h⟩
theorem po_some (h : PE X e te) : PO X (some e) (tPart te) := by
 intro pins s σ H Q I hw
 rw [evalPart_some]
 refine thn (h pins s σ H _ I hw) fun u s1 ⟨x, H1, I1, r1, q1⟩ => ?_
 obtain ⟨i, rfl, q⟩ := q1
 obtain ⟨t, rfl⟩ := r1
 exact ⟨some i, H1, I1, .int i t, q⟩
def SlR (X : Cx) (r : V → Option Int → Option Int → Hp → VK → Prop) : Prop :=
 ∀ (pins : List (Addr × Obj)) (s : Shared) (σ : St) (H : Hp) (x : V) (v vl vu : Value) (lo hi : Option Int) (sl : Addr) (Q : VK), Inv X pins σ H s → RelV x v → s.heap.IsSliceOf sl vl vu .none → IsPart vl lo → IsPart vu hi → r x lo hi H Q →
   ∃ T id, typeLookup (.type T) "__getitem__" = pure (some (.builtin id)) ∧ s.TypeIs v T ∧ wpAny (model X.prog X.w) X.A (getItem v (.ref sl)) (EP X pins σ Q) X.xe s
def tSl (r : V → Option Int → Option Int → Hp → VK → Prop) (te : TE) (tl th : TO) : TE := fun σ H Q => te σ H fun x H1 => tl σ H1 fun l H2 => th σ H2 fun u H3 => r x l u H3 Q
theorem pe_slice {r : V → Option Int → Option Int → Hp → VK → Prop} (hr : SlR X r) (he : PE X e te) (hl : PO X lo tl) (hu : PO X hi th) : PE X (.Subscript e (.Slice lo hi none p2) pos) (tSl r te tl th) := by
 intro pins s σ H Q I h
 refine Subscript_ (thn (he pins s σ H _ I h) fun v s1 ⟨x, H1, I1, r1, q1⟩ => ?_)
 refine wpAny_Slice (thn (hl pins s1 σ H1 _ I1 q1) fun vl s2 ⟨l, H2, I2, pl, q2⟩ => thn (hu pins s2 σ H2 _ I2 q2) fun vu s3 ⟨u, H3, I3, pu, q3⟩ => ?_)
 rw [evalPart_none]
 refine wpAny_pure ?_
 have I4 : Inv X pins σ H3 { s3 with heap := s3.heap.push { cls := .type "slice", data := .fields #[vl, vu, .none] } } := I3.kept (t' := s3.toks) fun b ob q => Heap.get?_push_of_some _ q
 obtain ⟨T, id, hT, ht, hg⟩ := hr pins { s3 with heap := s3.heap.push { cls := .type "slice", data := .fields #[vl, vu, .none] } } σ H3 x v vl vu l u s3.heap.objs.size Q I4 r1 (Heap.IsSliceOf.new ..) pl pu q3
 show wpAny (model X.prog X.w) X.A (subscriptTail e (.Slice lo hi none p2) v (.ref s3.heap.objs.size)) (EP X pins σ Q) X.xe { s3 with heap := s3.heap.push { cls := .type "slice", data := .fields #[vl, vu, .none] } }
 exact tail_any (ops := [.ref s3.heap.objs.size, v]) ht hT hg (by with_unfolding_all rfl)
def cutV (xs : List V) (lo hi : Option Int) : List V := (xs.drop (HT.sIx xs.length 0 lo)).take (HT.sIx xs.length xs.length hi - HT.sIx xs.length 0 lo)
theorem cutV_length (xs : List V) (lo hi : Option Int) : (cutV xs lo hi).length ≤ xs.length := by
 unfold cutV
 rw [List.length_take, List.length_drop]
 omega
def rLtT (K : PySem.W.Frag) : R2 := fun x y H Q => ∃ a b ns ms, x = .ref a ∧ y = .ref b ∧ SqT K H a (ns.map V.int) ∧ SqT K H b (ms.map V.int) ∧ Q (.bl (HT.lexLt ns ms)) H
theorem op_ltT (hu : X.A.units < cLine) : OpR X (compareOp .Lt) (rLtT X.K) := by
 intro pins s σ H x y v u Q I rx ry h
 obtain ⟨a, b, ns, ms, rfl, rfl, ha, hb, q⟩ := h
 cases rx
 cases ry
 obtain ⟨its, r1, p1, _⟩ := I.tuple ha
 obtain ⟨its2, r2, p2, _⟩ := I.tuple hb
 have i1 : IntsAre its.toArray.toList ns := intsAre_of r1
 have i2 : IntsAre its2.toArray.toList ms := intsAre_of r2
 exact HT.lt_tupInts p1 p2 i1 i2 hu ⟨.bl (HT.lexLt ns ms), H, I, rfl, q⟩
end
end L2
namespace L2
open PySem PySem.Spec PyProof.Rows
def ixN (n : Nat) (i : Int) : Option Nat := if 0 ≤ i then (if i < n then some i.toNat else none) else if -(n : Int) ≤ i then some (i + n).toNat else none
def atI {α : Type} (xs : List α) (i : Int) : Option α := (ixN xs.length i).bind fun j => xs[j]?
theorem ixN_seq {n : Nat} {i : Int} {j : Nat} (h : ixN n i = some j) : seqIndex? i n = some j ∧ j < n ∧ -(n : Int) ≤ i ∧ i < n := by
 unfold ixN at h
 by_cases h0 : 0 ≤ i
 · rw [if_pos h0] at h
   by_cases h1 : i < n
   · rw [if_pos h1] at h
     have e : i.toNat = j := Option.some.inj h
     exact ⟨by rw [seqIndex_of h0 h1, e], by omega, by omega, h1⟩
   · rw [if_neg h1] at h; cases h
 · rw [if_neg h0] at h
   by_cases h1 : -(n : Int) ≤ i
   · rw [if_pos h1] at h
     have e : (i + n).toNat = j := Option.some.inj h
     exact ⟨by rw [seqIndex_neg (by omega) h1, e], by omega, h1, by omega⟩
   · rw [if_neg h1] at h; cases h
theorem atI_get {α : Type} {xs : List α} {i : Int} {v : α} (h : atI xs i = some v) : ∃ j, seqIndex? i xs.length = some j ∧ xs[j]? = some v ∧ j < xs.length ∧ -(xs.length : Int) ≤ i ∧ i < xs.length := by
 unfold atI at h
 cases e : ixN xs.length i with
 | none => rw [e] at h; cases h
 | some j =>
   rw [e] at h
   obtain ⟨h1, h2, h3, h4⟩ := ixN_seq e
   exact ⟨j, h1, h, h2, h3, h4⟩
theorem yS {α : Type} {xs : List α} {j : Nat} {v : α} (h : xs[j]? = some v) : atI xs (j : Int) = some v := by
 have hj : j < xs.length := (List.getElem?_eq_some_iff.mp h).1
 have e : ixN xs.length (j : Int) = some j := by
   unfold ixN
   rw [if_pos (by omega), if_pos (by omega)]; simp
 unfold atI; rw [e]; exact h
def PlainIx (b : Expr) : Prop := ∀ o i, subscripted b false o i = operate [o, i] (getItem o i)
def IxR (X : Cx) (r : R2) : Prop :=
 ∀ (value slice : Expr) (pins : List (Addr × Obj)) (s : Shared) (σ : St) (H : Hp) (x y : V) (v u : Value) (Q : VK), Inv X pins σ H s → RelV x v → RelV y u → r x y H Q →
   subscripted slice false v u = operate [v, u] (getItem v u) → wpAny (model X.prog X.w) X.A (subscriptTail value slice v u) (EP X pins σ Q) X.xe s
def MtR (X : Cx) (id : String) (r : V → List V → Hp → VK → Prop) : Prop :=
 ∀ (pins : List (Addr × Obj)) (s : Shared) (σ : St) (H : Hp) (x : V) (xs : List V) (v : Value) (us : List Value) (Q : VK), Inv X pins σ H s → RelV x v → Vals xs us → r x xs H Q →
   wpAny (model X.prog X.w) X.A (call (.builtin id) (v :: us)) (EP X pins σ Q) X.xe s
section
variable {X : Cx} {a b : Expr} {ta tb : TE} {pos : Pos}
theorem xK {r : R2} (hr : IxR X r) (ha : PE X a ta) (hb : PE X b tb) (hs : PlainIx b) : PE X (.Subscript a b pos) (tOp r ta tb) := by
 intro pins s σ H Q I h
 exact Subscript_ (binT ha hb I h fun v u s2 x y H2 I2 rx ry q => hr a b pins s2 σ H2 x y v u Q I2 rx ry q (hs _ _))
def rIxL (K : PySem.W.Frag) : R2 := fun x y H Q => ∃ p xs i v, x = .ref p ∧ y = .int i ∧ SqL K H p xs ∧ atI xs i = some v ∧ Q v H
def rIxT (K : PySem.W.Frag) : R2 := fun x y H Q => ∃ p xs i v, x = .ref p ∧ y = .int i ∧ SqT K H p xs ∧ atI xs i = some v ∧ Q v H
def rIxS : R2 := fun x y H Q => ∃ z i c, x = .str z ∧ y = .int i ∧ z.length ≤ sizeLine ∧ atI z.cps.toList i = some c ∧ Q (.str ⟨#[c]⟩) H
theorem xG : IxR X (rIxL X.K) := by
 intro value slice pins s σ H x y v u Q I rx ry h hs
 obtain ⟨p, xs, i, z, rfl, rfl, hq, he, q⟩ := h
 cases rx
 obtain ⟨t, rfl⟩ := ry
 obtain ⟨its, r, pl, hz⟩ := I.list hq
 obtain ⟨j, h1, h2, h3, h4, h5⟩ := atI_get he
 obtain ⟨w, ew, rw'⟩ := r.get h2
 have hl := r.length
 have hn := line63
 have fin : EP X pins σ Q w s := ⟨z, H, I, rw', q⟩
 by_cases h0 : 0 ≤ i
 · have hj : i.toNat = j := by
     rw [seqIndex_of h0 h5] at h1
     exact Option.some.inj h1
   exact item_listR pl.isList h0 (by omega) (by rw [hj]; simpa using ew) fin hs
 · have hj : (i + (its.toArray.size : Int)).toNat = j := by
     rw [seqIndex_neg (by omega) h4] at h1
     rw [List.size_toArray, ← hl]
     exact Option.some.inj h1
   exact subscriptTail_builtinR (x := w) pl.isList.typeIs slot_list_getitem.lookup
     (wpAny_getItem_list_neg (Q := fun r s' => r = w ∧ EP X pins σ Q r s') pl.isList (by omega) (by rw [List.size_toArray] <;> omega) (by omega) (by rw [hj]; simpa using ew) ⟨rfl, fin⟩) hs
theorem ix_tup : IxR X (rIxT X.K) := by
 intro value slice pins s σ H x y v u Q I rx ry h hs
 obtain ⟨p, xs, i, z, rfl, rfl, hq, he, q⟩ := h
 cases rx
 obtain ⟨t, rfl⟩ := ry
 obtain ⟨its, r, pl, hz⟩ := I.tuple hq
 obtain ⟨j, h1, h2, h3, h4, h5⟩ := atI_get he
 obtain ⟨w, ew, rw'⟩ := r.get h2
 have hl := r.length
 have hn := line63
 have fin : EP X pins σ Q w s := ⟨z, H, I, rw', q⟩
 exact subscriptTail_builtinR (x := w) pl.typeIs slot_tuple_getitem.lookup
   (getItem_tuple (j := j) (Q := fun r s' => r = w ∧ EP X pins σ Q r s') pl (by omega) (by omega) (by rw [List.size_toArray, ← hl]; exact h1) (by simpa using ew) ⟨rfl, fin⟩) hs
theorem ix_str : IxR X rIxS := by
 intro value slice pins s σ H x y v u Q I rx ry h hs
 obtain ⟨z, i, c, rfl, rfl, hz, he, q⟩ := h
 obtain ⟨t, rfl⟩ := rx
 obtain ⟨t', rfl⟩ := ry
 obtain ⟨j, h1, h2, h3, h4, h5⟩ := atI_get he
 have hl : z.cps.toList.length = z.length := by simp [Str.length]
 rw [hl] at h1 h4 h5
 have hn := line63
 exact tail_any (typeIs_str s z t) slot_str_getitem.lookup (getItem_str (c := c) (by
   have e1 : decide (i < -(2 ^ 63 : Int)) = false := decide_eq_false (by omega)
   have e2 : decide (i ≥ 2 ^ 63) = false := decide_eq_false (by omega)
   rw [e1, e2, Bool.or_false]) (by rw [h1]; simpa using h2) ⟨.str ⟨#[c]⟩, H, I.tok _, ⟨_, rfl⟩, q⟩) hs
theorem Inv.lst {pins : List (Addr × Obj)} {σ : St} {H : Hp} {s : Shared} {p : Addr} {xs : List V} (I : Inv X pins σ H s) (h : H p = some (.lst xs)) :
   ∃ (its : List Value) (n : Nat), Vals xs its ∧ s.heap.get? p = some { cls := .type "list", data := .seq its.toArray n } ∧ xs.length ≤ sizeLine := by
 obtain ⟨z, its, n, r, e⟩ := I.hok p _ h
 exact ⟨its, n, r, e, z⟩
theorem slice_bounds (lo hi : Option Int) (n : Nat) : (sliceBounds lo hi none n).1 = ((HT.sIx n 0 lo : Nat) : Int) ∧ (sliceBounds lo hi none n).2.1 = ((HT.sIx n n hi : Nat) : Int) ∧ (sliceBounds lo hi none n).2.2 = 1 := by
 refine ⟨?_, ?_, rfl⟩
 · cases lo with
   | none => simp [sliceBounds, HT.sIx]
   | some i =>
     simp only [sliceBounds, HT.sIx, Option.getD_none, show (1 : Int) > 0 by decide, if_true]
     by_cases h : i < 0
     · simp only [h, if_true] <;> omega
     · simp only [h, if_false] <;> omega
 · cases hi with
   | none => simp [sliceBounds, HT.sIx]
   | some i =>
     simp only [sliceBounds, HT.sIx, Option.getD_none, show (1 : Int) > 0 by decide, if_true]
     by_cases h : i < 0
     · simp only [h, if_true] <;> omega
     · simp only [h, if_false] <;> omega
theorem slicePick_cut (its : List Value) (lo hi : Option Int) : slicePick its.toArray lo hi none = ((its.drop (HT.sIx its.length 0 lo)).take (HT.sIx its.length its.length hi - HT.sIx its.length 0 lo)).toArray := by
 obtain ⟨h1, h2, h3⟩ := slice_bounds lo hi its.toArray.size
 unfold slicePick
 rw [h1, h2, h3]
 simp only [sliceRange_one, pick_run, List.size_toArray] <;> rfl
def rSlL (K : PySem.W.Frag) : V → Option Int → Option Int → Hp → VK → Prop := fun x lo hi H Q => ∃ a xs, x = .ref a ∧ SqL K H a xs ∧ ∀ p, H p = none → Q (.ref p) (upd H p (.lst (cutV xs lo hi)))
theorem sl_list : SlR X (rSlL X.K) := by
 intro pins s σ H x v vl vu lo hi sl Q I rx hs pl pu h
 obtain ⟨a, xs, rfl, hx, q⟩ := h
 cases rx
 obtain ⟨its, r, ht, hz⟩ := I.list hx
 have hlen := r.length
 refine ⟨"list", _, slot_list_getitem.lookup, ht.isList.typeIs, ?_⟩
 refine wpAny_getItem_list_slice ht.isList hs pl pu .none (by simp) ?_ (by rw [List.size_toArray] <;> omega)
 rw [slicePick_cut, ← hlen]
 refine ⟨.ref s.heap.objs.size, _, I.laid (t' := s.toks) (o := .lst (cutV xs lo hi)) (fun b ob q => Heap.get?_push_of_some _ q) (Nat.le_refl _) ?_, rfl, q _ (I.hok.fresh (Nat.le_refl _))⟩
 exact ⟨Nat.le_trans (cutV_length xs lo hi) hz, _, 0, (r.drop (HT.sIx xs.length 0 lo)).take (HT.sIx xs.length xs.length hi - HT.sIx xs.length 0 lo), Heap.get?_push_size _ rfl⟩
def flatV : V → Bool
 | .non => true
 | .bl _ => true
 | .int _ => true
 | .str _ => true
 | _ => false
def eqV : V → V → Bool
 | .non, .non => true
 | .bl a, .bl b => a == b
 | .bl a, .int b => (if a then 1 else 0) == b
 | .int a, .bl b => a == (if b then 1 else 0)
 | .int a, .int b => a == b
 | .str a, .str b => a == b
 | _, _ => false
theorem eqAt_V {A : Around} {s : Shared} {y x : V} {u v : Value} (ry : RelV y u) (rx : RelV x v) (fy : flatV y = true) (fx : flatV x = true) : SeqAt.EqAt A s u v (eqV y x) := by
 cases y with
 | non =>
   cases ry
   cases x with
   | non => cases rx; exact SeqAt.EqAt.same _
   | bl b => cases rx; exact SeqAt.EqAt.none_bool b
   | int b => obtain ⟨t, rfl⟩ := rx; exact SeqAt.EqAt.none_int b t
   | str b => obtain ⟨t, rfl⟩ := rx; exact SeqAt.EqAt.none_str b t
   | _ => exact absurd (show false = true from fx) Bool.false_ne_true
 | bl a =>
   cases ry
   cases x with
   | non => cases rx; exact SeqAt.EqAt.bool_none a
   | bl b => cases rx; exact SeqAt.EqAt.bool_bool a b
   | int b => obtain ⟨t, rfl⟩ := rx; exact SeqAt.EqAt.bool_int a b t
   | str b => obtain ⟨t, rfl⟩ := rx; exact SeqAt.EqAt.bool_str a b t
   | _ => exact absurd (show false = true from fx) Bool.false_ne_true
 | int a =>
   obtain ⟨t', rfl⟩ := ry
   cases x with
   | non => cases rx; exact SeqAt.EqAt.int_none a t'
   | bl b => cases rx; exact SeqAt.EqAt.int_bool a t' b
   | int b => obtain ⟨t, rfl⟩ := rx; exact SeqAt.EqAt.int_int a t' b t
   | str b => obtain ⟨t, rfl⟩ := rx; exact SeqAt.EqAt.int_str a t' b t
   | _ => exact absurd (show false = true from fx) Bool.false_ne_true
 | str a =>
   obtain ⟨t', rfl⟩ := ry
   cases x with
   | non => cases rx; exact SeqAt.EqAt.str_none a t'
   | bl b => cases rx; exact SeqAt.EqAt.str_bool a t' b
   | int b => obtain ⟨t, rfl⟩ := rx; exact SeqAt.EqAt.str_int a t' b t
   | str b => obtain ⟨t, rfl⟩ := rx; exact SeqAt.EqAt.str_str a t' b t
   | _ => exact absurd (show false = true from fx) Bool.false_ne_true
 | _ => exact absurd (show false = true from fy) Bool.false_ne_true
def eqU (x : V) (u : Value) : Bool := match u with
 | .none => eqV .non x
 | .bool b => eqV (.bl b) x
 | .int i _ => eqV (.int i) x
 | .str z _ => eqV (.str z) x
 | _ => false
theorem eqU_of {x y : V} {u : Value} (r : RelV y u) (f : flatV y = true) : eqU x u = eqV y x := by
 cases y with
 | non => cases r; rfl
 | bl b => cases r; rfl
 | int i => obtain ⟨t, rfl⟩ := r; rfl
 | str z => obtain ⟨t, rfl⟩ := r; rfl
 | _ => exact absurd (show false = true from f) Bool.false_ne_true
theorem any_eqU {x : V} : ∀ {xs : List V} {us : List Value}, Vals xs us → xs.all flatV = true → us.any (eqU x) = xs.any fun y => eqV y x
 | _, _, .nil, _ => rfl
 | y :: xs, u :: us, .cons r t, f => by
   rw [List.all_cons, Bool.and_eq_true] at f
   rw [List.any_cons, List.any_cons, eqU_of r f.1, any_eqU t f.2]
theorem mem_eqAt {A : Around} {s : Shared} {x : V} {v : Value} (rx : RelV x v) (fx : flatV x = true) : ∀ {xs : List V} {us : List Value}, Vals xs us → xs.all flatV = true → ∀ u ∈ us, SeqAt.EqAt A s u v (eqU x u)
 | _, _, .nil, _ => fun u hu => by cases hu
 | y :: xs, u :: us, .cons r t, f => fun u' hu => by
   rw [List.all_cons, Bool.and_eq_true] at f
   rcases List.mem_cons.mp hu with rfl | hu
   · rw [eqU_of r f.1]; exact eqAt_V r rx f.1 fx
   · exact mem_eqAt rx fx t f.2 u' hu
def inV (x : V) (xs : List V) : Bool := xs.any fun y => eqV y x
def rIn (K : PySem.W.Frag) (neg : Bool) : R2 := fun x y H Q => ∃ p xs, y = .ref p ∧ (SqL K H p xs ∨ SqT K H p xs) ∧ flatV x = true ∧ xs.all flatV = true ∧ Q (.bl (if neg then !inV x xs else inV x xs)) H
theorem op_notIn_seq : OpR X (compareOp .NotIn) (rIn X.K true) := by
 intro pins s σ H x y v u Q I rx ry h
 obtain ⟨p, xs, rfl, hq, fx, fs, q⟩ := h
 cases ry
 rcases hq with hq | hq
 · obtain ⟨its, r, pl, hz⟩ := I.list hq
   refine SeqAt.notIn_listAt (eqU x) pl.isList (fun w hw => mem_eqAt rx fx r fs w (by simpa using hw)) ⟨.bl _, H, I, rfl, ?_⟩
   rw [show its.toArray.any (eqU x) = its.any (eqU x) by simp, any_eqU r fs]
   exact q
 · obtain ⟨its, r, pl, hz⟩ := I.tuple hq
   refine SeqAt.notIn_tupleAt (eqU x) pl (fun w hw => mem_eqAt rx fx r fs w (by simpa using hw)) ⟨.bl _, H, I, rfl, ?_⟩
   rw [show its.toArray.any (eqU x) = its.any (eqU x) by simp, any_eqU r fs]
   exact q
theorem yW : CallR X (.builtin "len") (fun xs H Q => ∃ p ys, xs = [.ref p] ∧ (SqL X.K H p ys ∨ SqT X.K H p ys) ∧ Q (.int ys.length) H) := by
 intro pins s σ H xs us Q I r h
 obtain ⟨p, ys, rfl, hq, q⟩ := h
 obtain ⟨u, rfl, rx⟩ := vals1 r
 cases rx
 have hn := line63
 rcases hq with hq | hq
 · obtain ⟨its, r', pl, hz⟩ := I.list hq
   have hlen := r'.length
   exact Calls.call_len_list pl.isList (by simp only [List.size_toArray] <;> omega) ⟨.int ys.length, H, I.tok _, ⟨s.toks + 1, by rw [List.size_toArray, hlen]⟩, q⟩
 · obtain ⟨its, r', pl, hz⟩ := I.tuple hq
   have hlen := r'.length
   exact len_tuple pl (by simp only [List.size_toArray] <;> omega) ⟨.int ys.length, H, I.tok _, ⟨s.toks + 1, by rw [List.size_toArray, hlen]⟩, q⟩
theorem xP : CallR X (.type "list") (fun xs H Q => ∃ p ys, xs = [.ref p] ∧ (SqL X.K H p ys ∨ SqT X.K H p ys) ∧ ∀ l, H l = none → Q (.ref l) (upd H l (.lst ys))) := by
 intro pins s σ H xs us Q I r h
 obtain ⟨p, ys, rfl, hq, q⟩ := h
 obtain ⟨u, rfl, rx⟩ := vals1 r
 cases rx
 have fin : ∀ (its : List Value), Vals ys its → ys.length ≤ sizeLine → ∀ (h' : Heap) (c' : Nat), (∀ b o', s.heap.get? b = some o' → h'.get? b = some o') →
     h'.get? s.heap.objs.size = some { cls := .type "list", dict := none, data := .seq its.toArray c', slots := #[] } → EP X pins σ Q (.ref s.heap.objs.size) { s with heap := h' } := fun its r' hz h' c' kp e =>
   ⟨.ref s.heap.objs.size, _, I.laid (t' := s.toks) kp (Nat.le_refl _) (show ObjOk X.prog X.w _ h' _ (.lst ys) from ⟨hz, its, c', r', e⟩), rfl, q _ (I.hok.fresh (Nat.le_refl _))⟩
 rcases hq with hq | hq
 · obtain ⟨its, r', pl, hz⟩ := I.list hq
   have hlen := r'.length
   obtain ⟨o, ho, hc, n, hd⟩ := pl.isList
   exact call_list_seq p (.inl rfl) ho hc hd (fun h' c' kp e => fin its r' hz h' c' kp e) (by simp only [List.size_toArray] <;> omega)
 · obtain ⟨its, r', pl, hz⟩ := I.tuple hq
   have hlen := r'.length
   obtain ⟨o, ho, hc, n, hd⟩ := pl
   exact call_list_seq p (.inr rfl) ho hc hd (fun h' c' kp e => fin its r' hz h' c' kp e) (by simp only [List.size_toArray] <;> omega)
def tyV (K : PySem.W.Frag) (T : String) (x : V) (H : Hp) : Prop := match x with
 | .str _ => T = "str"
 | .int _ => T = "int"
 | .ref p => (T = "list" ∧ ∃ xs, SqL K H p xs) ∨ (T = "tuple" ∧ ∃ o, K.lookup p = some o ∧ o.cls = .type "tuple" ∧ o.dict = none) ∨
     (T = "dict" ∧ ((∃ kvs, H p = some (.dK kvs)) ∨ ∃ kvs, H p = some (.dT kvs))) ∨ (T = "set" ∧ ∃ S n, H p = some (.set S n))
 | _ => False
theorem tyV_is {pins : List (Addr × Obj)} {σ : St} {H : Hp} {s : Shared} {T : String} {x : V} {v : Value} (I : Inv X pins σ H s) (r : RelV x v) (ty : tyV X.K T x H) :
   s.TypeIs v T ∧ ∀ a, v = .ref a → ∃ ob, s.heap.get? a = some ob ∧ ob.dict = none := by
 cases x with
 | str z =>
   obtain ⟨t, rfl⟩ := r
   cases (show T = "str" from ty)
   exact ⟨typeIs_str s z t, fun _ e => nomatch e⟩
 | int i =>
   obtain ⟨t, rfl⟩ := r
   cases (show T = "int" from ty)
   exact ⟨typeIs_int s i t, fun _ e => nomatch e⟩
 | ref p =>
   cases r
   rcases ty with ⟨rfl, xs, hq⟩ | ⟨rfl, o, hk, hc, hd⟩ | ⟨rfl, hk⟩ | ⟨rfl, S, n, hk⟩
   · obtain ⟨its, _, pl, _⟩ := I.list hq
     refine ⟨pl.isList.typeIs, fun a e => ?_⟩
     cases e
     obtain ⟨o, n, e, c, hd, _⟩ := pl
     exact ⟨o, e, hd⟩
   · refine ⟨⟨o, I.kIn p o hk, hc⟩, fun a e => ?_⟩
     cases e
     exact ⟨o, I.kIn _ o hk, hd⟩
   · have z : ∃ o, s.heap.get? p = some o ∧ o.ExactDict := by
       rcases hk with ⟨kvs, hk⟩ | ⟨kvs, hk⟩
       · obtain ⟨_, _, _, _, o, _, _, e, ex, _⟩ := I.hok p _ hk
         exact ⟨o, e, ex⟩
       · obtain ⟨_, _, _, _, o, _, _, e, ex, _⟩ := I.hok p _ hk
         exact ⟨o, e, ex⟩
     obtain ⟨o, e, ex⟩ := z
     refine ⟨⟨o, e, ex.1⟩, fun a e2 => ?_⟩
     cases e2
     exact ⟨o, e, ex.2.1⟩
   · obtain ⟨o, _, _, _, e, ex, _⟩ := I.hok p _ hk
     refine ⟨⟨o, e, ex.1⟩, fun a e2 => ?_⟩
     cases e2
     exact ⟨o, e, ex.2.1⟩
 | _ => exact False.elim ty
def tBM (K : PySem.W.Frag) (T : String) (r : V → List V → Hp → VK → Prop) (to : TE) (t : TA) : TE := fun σ H Q => to σ H fun x H1 => tyV K T x H1 ∧ t σ H1 fun xs H2 => r x xs H2 Q
variable {o e : Expr} {es : List Expr} {to : TE} {t : TA} {name : Str} {apos cpos : Pos} {T id : String} {r : V → List V → Hp → VK → Prop}
theorem pe_bm (pa : PlainAttrs T) (slot : Slot T name id) (hty : typeOf (.builtin id) = pure (.type "method_descriptor")) (hm : MtR X id r) (ho : PE X o to) (ha : PA X (e :: es) t)
   (hbase : attributeBase o name X.env (eval o X.env) = eval o X.env := by rfl)
   (hfew : ((backTo cpos (starEach (e :: es) X.env)).all (fun x => !x.1) && (backToKw cpos (keywordEach [] X.env)).all (fun x => x.1.isSome)
     && decide ((e :: es).length + ([] : List Keyword).length + (if ([] : List Keyword).isEmpty then 0 else 1) < 30)) = true := by rfl)
   (hline : (apos.endLine == cpos.line) = true := by rfl) (hs : starEach (e :: es) X.env = (false, eval e X.env) :: starEach es X.env := by rfl) (hplain : (backTo cpos (starEach es X.env)).any (·.1) = false := by rfl) :
   PE X (.Call (.Attribute o name apos) (e :: es) [] cpos) (tBM X.K T r to t) := by
 intro pins s σ H Q I h
 refine wpAny_Call_method_late hbase hfew hline rfl (thn (ho pins s σ H _ I h) fun v s1 ⟨x, H1, I1, r1, ty, q1⟩ => ?_)
 obtain ⟨h1, h2⟩ := tyV_is I1 r1 ty
 refine ⟨T, id, pa, slot, hty, h1, h2, ?_⟩
 have hA := ha cpos pins s1 σ H1 _ I1 q1
 rw [hs] at hA ⊢
 refine Calls.callWith_builtin (by show (false || (backTo cpos (starEach es X.env)).any (·.1)) = false; rw [hplain] <;> rfl) (Calls.evalArgs_plain ?_)
 exact thn hA fun us s2 ⟨vs, H2, I2, r2, q2⟩ => hm pins s2 σ H2 x vs v us Q I2 r1 r2 q2
end
end L2
namespace L2
open PySem PySem.Spec PyProof.Rows
def MtM (X : Cx) (id : String) (r : V → List V → Hp → VK → Prop) : Prop :=
 ∀ (pins : List (Addr × Obj)) (s : Shared) (σ : St) (H : Hp) (x : V) (xs : List V) (v : Value) (us : List Value) (Q : VK), Inv X pins σ H s → RelV x v → Vals xs us → r x xs H Q →
   wpAny (model X.prog X.w) X.A (call (.builtin id) (v :: us)) (EP X pins σ Q) X.xe s
theorem Vals.one : ∀ {x : V} {us : List Value}, Vals [x] us → ∃ u, us = [u] ∧ RelV x u
 | _, _, .cons r .nil => ⟨_, rfl, r⟩
theorem Vals.two : ∀ {x y : V} {us : List Value}, Vals [x, y] us → ∃ u v, us = [u, v] ∧ RelV x u ∧ RelV y v
 | _, _, _, .cons r (.cons q .nil) => ⟨_, _, rfl, r, q⟩
theorem Vals.zero : ∀ {us : List Value}, Vals [] us → us = []
 | _, .nil => rfl
section
variable {X : Cx} {pins : List (Addr × Obj)} {σ : St} {H : Hp} {s : Shared} {l b : Addr} {xs ys zs : List V}
theorem Inv.lset {its its' : List Value} {n : Nat} {f : Array Value → Array Value} {t' : Nat} (I : Inv X pins σ H s) (hH : H l = some (.lst xs))
   (e : s.heap.get? l = some { cls := .type "list", data := .seq its.toArray n }) (hf : f its.toArray = its'.toArray) (hv : Vals ys its') (hz : ys.length ≤ sizeLine) :
   Inv X pins σ (upd H l (.lst ys)) { s with heap := s.heap.update l (Obj.mapSeq f), toks := t' } := by
 have q := PySem.IsL.update e f
 rw [hf] at q
 refine I.write (x := l) (e := l) (by rw [hH]; exact trivial) (.inl rfl) (fun b' u hb hu => (Heap.get?_update_other s.heap (Obj.mapSeq f) (Ne.symm hb)).trans hu) ⟨_, q⟩ ?_
 exact ⟨hz, its', _, hv, q⟩
theorem Inv.lnew {its : List Value} {t' : Nat} (I : Inv X pins σ H s) (hv : Vals ys its) (hz : ys.length ≤ sizeLine) :
   Inv X pins σ (upd H s.heap.objs.size (.lst ys)) { s with heap := s.heap.push { cls := .type "list", data := .seq its.toArray }, toks := t' } :=
 I.laid (fun _ _ q => Heap.get?_push_of_some _ q) (Nat.le_refl _) ⟨hz, its, 0, hv, Heap.get?_push_size _ rfl⟩
theorem Inv.fresh (I : Inv X pins σ H s) : H s.heap.objs.size = none := I.hok.fresh (Nat.le_refl _)
theorem Inv.lstM (I : Inv X pins σ H s) (hH : H l = some (.lst xs)) : xs.length ≤ sizeLine ∧ ∃ (its : List Value) (n : Nat), Vals xs its ∧ xs.length = its.length ∧ s.heap.get? l = some { cls := .type "list", data := .seq its.toArray n } := by
 obtain ⟨z, its, n, r, e⟩ := I.hok l _ hH
 exact ⟨z, its, n, r, r.length, e⟩
theorem notLongL {n : Nat} (h : n ≤ sizeLine) : Builtin.List.listTooLong n = false := by
 unfold Builtin.List.listTooLong
 exact decide_eq_false (by omega)
end
section
variable {X : Cx}
def rAppend : V → List V → Hp → VK → Prop := fun x vs H Q => ∃ l xs y, x = .ref l ∧ vs = [y] ∧ H l = some (.lst xs) ∧ xs.length < sizeLine ∧ Q .non (upd H l (.lst (xs ++ [y])))
theorem mt_append : MtM X "list.append" rAppend := by
 intro pins s σ H x vs v us Q I rx rv h
 obtain ⟨l, xs, y, rfl, rfl, hH, hz, q⟩ := h
 cases rx
 obtain ⟨u, rfl, ru⟩ := rv.one
 obtain ⟨z, its, n, r, hl, e⟩ := I.lstM hH
 refine call_meets F.slot_list_append ⟨_, e, rfl⟩ F.entry_list_append (F.args_list_append_2 _ _) (PySem.list_append l its.toArray n u (by rw [List.size_toArray]; omega)) ⟨e, ?_⟩
 refine ⟨.non, _, I.lset (its' := its ++ [u]) hH e (by simp) (r.append (.cons ru .nil)) ?_, rfl, q⟩
 rw [List.length_append, List.length_singleton]
 omega
def rExtend : V → List V → Hp → VK → Prop := fun x vs H Q => ∃ l b xs zs, x = .ref l ∧ vs = [.ref b] ∧ H l = some (.lst xs) ∧ H b = some (.lst zs) ∧ xs.length + zs.length ≤ sizeLine ∧ Q .non (upd H l (.lst (xs ++ zs)))
theorem mt_extend : MtM X "list.extend" rExtend := by
 intro pins s σ H x vs v us Q I rx rv h
 obtain ⟨l, b, xs, zs, rfl, rfl, hH, hB, hz, q⟩ := h
 cases rx
 obtain ⟨u, rfl, ru⟩ := rv.one
 cases ru
 obtain ⟨z, its, n, r, hl, e⟩ := I.lstM hH
 obtain ⟨z2, its2, n2, r2, hl2, e2⟩ := I.lstM hB
 have hsz : its.toArray.size + its2.toArray.size ≤ sizeLine := by rw [List.size_toArray, List.size_toArray]; omega
 have hlong : ¬ (!its.toArray.isEmpty && Builtin.List.listTooLong (its.toArray.size + its2.toArray.size)) = true := by
   rw [notLongL hsz, Bool.and_false]
   exact Bool.false_ne_true
 refine call_meets F.slot_list_extend ⟨_, e, rfl⟩ F.entry_list_extend (F.args_list_extend_2 _ _)
   (AutoSeq1.list_extend_list_list_0 l its.toArray n b its2.toArray n2 hlong (by rw [List.size_toArray]; omega) (by omega)) ⟨e, e2, ?_⟩
 refine ⟨.non, _, I.lset (its' := its ++ its2) hH e (by simp) (r.append r2) ?_, rfl, q⟩
 rw [List.length_append]
 omega
def rCat : R2 := fun x y H Q => ∃ l b xs zs, x = .ref l ∧ y = .ref b ∧ H l = some (.lst xs) ∧ H b = some (.lst zs) ∧ xs.length + zs.length ≤ sizeLine ∧ ∀ p, H p = none → Q (.ref p) (upd H p (.lst (xs ++ zs)))
theorem op_cat : OpR X (binaryOp .Add) rCat := by
 intro pins s σ H x y v u Q I rx ry h
 obtain ⟨l, b, xs, zs, rfl, rfl, hH, hB, hz, q⟩ := h
 cases rx
 cases ry
 obtain ⟨z, its, n, r, hl, e⟩ := I.lstM hH
 obtain ⟨z2, its2, n2, r2, hl2, e2⟩ := I.lstM hB
 refine PySem.P.add_list e e2 ?_ (by rw [List.size_toArray, List.size_toArray]; omega)
 have ea : its.toArray ++ its2.toArray = (its ++ its2).toArray := by simp
 rw [ea]
 exact ⟨.ref _, _, I.lnew (t' := s.toks) (r.append r2) (by rw [List.length_append]; omega), rfl, q _ I.fresh⟩
end
section
variable {prog : Program} {w : World} {A : Around} {E : Value → Shared → Prop} {s : Shared}
end
section
variable {X : Cx}
end
end L2
namespace Att
open PySem PySem.W PySem.Calls PyProof.Rows
theorem ints_of_wellAll {P : Params} {h : Heap} : ∀ (ns : List Int) (vs : List Value), WellAll P h vs (ns.map WData.int) → IntsAre vs ns := by
 intro ns
 induction ns with
 | nil =>
   intro vs w
   rw [List.map_nil] at w
   cases w
   exact .nil
 | cons n ns ih =>
   intro vs w
   rw [List.map_cons] at w
   cases w with
   | cons a b =>
     cases a
     exact .cons _ _ (ih _ b)
theorem script_of {l : OpenLaw} {n : Nat} (hn : l.most = some n) {P : Params} {h : Heap} {args : List WData} {vals : List Value}
   (hpre : l.row.toRowW.claim.pre args = true) (hwl : WellAll P h vals args) :
   ∃ a vs ns, vals = [Value.ref a] ∧ args = [WData.list (ns.map WData.int)] ∧ h.get? a = some { cls := .type "list", data := .seq vs.toArray } ∧ IntsAre vs ns ∧ ns.length ≤ n := by
 have hsh : WShape.hasAll [] args [.list .int] = true := (pre_splitW hpre).1
 have hc : l.pre.holds [] { args := args } = true := (pre_splitW hpre).2
 obtain ⟨d, r, rfl, h1, h2⟩ := hasAllW_cons hsh
 obtain rfl := hasAllW_nil h2
 obtain ⟨xs, rfl, h3⟩ := hasW_list h1
 obtain ⟨ns, rfl⟩ := items_int h3
 have hlen : ns.length ≤ n := by
   unfold OpenLaw.pre at hc
   have h4 : (WTm.not (.lt (.lit (.int (n : Int))) (.len (.arg 0)))).holds [] { args := [.list (ns.map .int)] } = true := by
     have h4 := (holds_andW hc).1
     rw [hn] at h4
     exact h4
   have h5 := condW_of h4 (w_not (w_lt w_lit (w_len_list (w_arg rfl))))
   rw [List.length_map] at h5
   refine Nat.le_of_not_lt fun q => ?_
   have q' : (n : Int) < ((ns.length : Nat) : Int) := by omega
   first
     | (rw [decide_eq_true q'] at h5; exact absurd h5 (by decide))
     | (simp at h5; omega)
 cases hwl with
 | cons w1 w2 =>
   cases w2
   cases w1 with
   | list ho hall => exact ⟨_, _, ns, rfl, rfl, ho, ints_of_wellAll ns _ hall, hlen⟩
theorem post_true (l : OpenLaw) (args : List WData) : l.row.toRowW.claim.post args (.bool true) args = true :=
 postW_of (r := l.row.toRowW) (X := (true == true))
   (show WShape.has [] (.bool true) .bool = true by first | rfl | decide | simp [WShape.has, WShape.arms, WShape.armsAll])
   (show (WTm.eq .res (.lit (.bool true))).value [] { args := args, res := some (.bool true), after := args } = some (.bool (true == true)) from w_eq_bool (w_res rfl) w_lit) rfl
section
variable {prog : Program} {w : World} {A : Around} {E : Value → Shared → Prop} {s : Shared} {K : Frag}
end
end Att
namespace L2
open PySem PySem.Spec PyProof.Rows
theorem vals_ints : ∀ {vs : List Value} {ns : List Int}, IntsAre vs ns → Vals (ns.map V.int) vs
 | _, _, .nil => .nil
 | _, _, .cons n t h => .cons ⟨t, rfl⟩ (vals_ints h)
def Only (H : Hp) : Prop := ∀ b, H b = none ∨ ∃ o xs, H b = some (.frz o (.lst xs))
theorem law_call {P : Program} {w : World} {K : PySem.W.Frag} {mg mb : Str → Option Value} {CX : CXT} {k : Nat} {fa a : Addr} {fd : FuncData} {x : Str} {sp : Sp} {s₁ : Shared} {vs : List Value} {ns : List Int}
   (KX : K.In s₁.heap) (hns : s₁.heap.Ns mainGlobals mg) (hb : s₁.heap.Ns builtinsNs mb) (hbb : ∀ x : Str, x ≠ "__name__" → mb x = bootBuiltins x) (hlim : s₁.heap.NoLimit) (hg : s₁.gens = #[])
   (ha : s₁.heap.get? a = some { cls := .type "list", data := .seq vs.toArray }) (hi : IntsAre vs ns) (hl : ns.length ≤ sizeLine) (hr : Room k callerA)
   (F : ∀ base : Heap, K.In base → base.Ns mainGlobals mg → FnOk P w K mg base CX k fa fd [x] sp) (hbind : ∀ (s : Shared) (u : Value), BindsTo s fd ⟨[u], []⟩ [(x, u)])
   (hsp : ∀ H : Hp, Only H → SqL K H a (ns.map V.int) → sp [.ref a] H (fun v _ => v = .bl true) fun _ _ _ => False)
   (hCX : ∀ H e s', CX [] H s₁ (fun _ _ _ => False) e s' → False) :
   codeAny (model P w) callerA (.call (.ref fa) ⟨[.ref a], []⟩) (fun r s' => r = .ok (.ret (.bool true)) ∧ OldK s₁.heap s'.heap ∧ s'.os = s₁.os ∧ AllBare s'.gens) s₁ := by
 have rv := vals_ints hi
 have lenV := hi.length
 have core : ∀ H : Hp, Only H → SqL K H a (ns.map V.int) → HOk P w H s₁.heap → (∀ b, H b ≠ none → b = a) → (H a ≠ none → K.lookup a = none) →
     codeAny (model P w) callerA (.call (.ref fa) ⟨[.ref a], []⟩) (fun r s' => r = .ok (.ret (.bool true)) ∧ OldK s₁.heap s'.heap ∧ s'.os = s₁.os ∧ AllBare s'.gens) s₁ := by
   intro H hO hS hok hA hK
   have base_of : ∀ {b : Addr} {o : Obj}, s₁.heap.get? b = some o → H b = none → (hidT s₁.heap H).get? b = some o := fun e n => hidT_get e n
   have noA : ∀ {b : Addr} {o : Obj} {es : Array DictEntry} {ep : Nat}, s₁.heap.get? b = some o → o.data = .dict es ep → H b = none := fun {b o es ep} e d => by
     cases q : H b with
     | none => rfl
     | some u =>
       have e' : b = a := hA b (by rw [q]; simp)
       subst e'
       rw [ha] at e; cases e
       have d' : Data.seq vs.toArray _ = Data.dict es ep := d
       cases d'
   have nsK : ∀ {b : Addr} {m : Str → Option Value}, s₁.heap.Ns b m → (hidT s₁.heap H).Ns b m := fun {b m} ⟨o, es, ep, e, d, r⟩ => ⟨o, es, ep, base_of e (noA e d), d, r⟩
   have hKb : K.In (hidT s₁.heap H) := fun b o e => base_of (KX b o e) (by
     cases q : H b with
     | none => rfl
     | some u =>
       have e' : b = a := hA b (by rw [q]; simp)
       subst e'
       rw [hK (by rw [q]; simp)] at e; cases e)
   have hM : Mod K mg (hidT s₁.heap H) := ⟨hKb, nsK hns, ⟨mb, nsK hb, hbb⟩, let ⟨mc, h1, h2⟩ := hlim; ⟨mc, nsK h1, h2⟩⟩
   have e0 : Env0 P w K mg (hidT s₁.heap H) callerA [] s₁ H := ⟨rfl, hM, fun b o e => of_hidT e, Nat.le_of_eq (hidT_size _ _), trivial, fun b hb => absurd (show b ∈ ([] : List Addr) from hb) (by simp), hok, .of_eq hg⟩
   refine codeAny_mono ((F _ hKb (nsK hns)).run callerA [] s₁ H ⟨[.ref a], []⟩ [.ref a] [.ref a] _ _ hr e0 (hbind s₁ (.ref a)) (.cons rfl .nil) (hsp H hO hS)) fun r s' h => ?_
   cases r with
   | error e => exact (hCX H e s' h).elim
   | ok fl =>
     cases fl with
     | next => exact False.elim h
     | brk => exact False.elim h
     | cont => exact False.elim h
     | ret u =>
       obtain ⟨v, H', os, bare, un, hok', r', q⟩ := h
       have q' : v = .bl true := q
       subst q'
       obtain rfl : u = Value.bool true := r'
       refine ⟨rfl, OldK.of_keep fun b o e => ?_, os, bare⟩
       cases q : H b with
       | none => exact un.keep b o e q (by intro z; exact absurd (show b ∈ ([] : List Addr) from z) (by simp)) (by simp)
       | some u =>
         rcases hO b with z | ⟨ob, xs, z⟩
         · rw [q] at z; cases z
         · have z2 := un.frzs b ob _ z
           obtain ⟨e1, _⟩ := hok b _ z
           obtain ⟨e2, _⟩ := hok' b _ z2
           rw [e] at e1; cases e1
           exact e2
 cases hk : K.lookup a with
 | some o =>
   have e := KX a o hk
   rw [ha] at e
   cases e
   refine core (fun _ => none) (fun _ => .inl rfl) (.inr ⟨_, vs.toArray, _, hk, rfl, rfl, rfl, by rw [List.size_toArray, lenV]; exact hl, by simpa using rv⟩) (fun b u z => by have z' : (none : Option HO) = some u := z; cases z') (fun b z => absurd rfl z) fun z => absurd rfl z
 | none =>
   refine core (fun b => if b = a then some (.frz { cls := .type "list", data := .seq vs.toArray } (.lst (ns.map V.int))) else none) (fun b => ?_) (.inl (.inr ⟨{ cls := .type "list", data := .seq vs.toArray }, if_pos rfl⟩)) (fun b u z => ?_) (fun b z => ?_) fun _ => hk
   · by_cases hb : b = a
     · exact .inr ⟨_, _, if_pos hb⟩
     · exact .inl (if_neg hb)
   · by_cases hb : b = a
     · have z' := (if_pos hb).symm.trans z
       cases z'
       subst hb
       exact ⟨ha, by rw [List.length_map]; exact hl, vs, _, rv, ha⟩
     · have z' := (if_neg hb).symm.trans z
       cases z'
   · by_cases hb : b = a
     · exact hb
     · exact absurd (if_neg hb) z
end L2
namespace L2
open PySem PySem.Spec PyProof.Rows
abbrev KOf {K : PySem.W.Frag} {h : Heap} (_ : K.In h) : PySem.W.Frag := K
end L2
namespace L2
open PySem PySem.Spec PyProof.Rows
def inClass (s : Stmt) (j : Nat) : Stmt := match s with
 | .ClassDef _ _ _ body _ _ _ _ _ _ _ => body.getD j (.Pass ⟨0, 0, 0, 0⟩)
 | _ => .Pass ⟨0, 0, 0, 0⟩
def defArgs (s : Stmt) : Arguments := match s with
 | .FunctionDef _ a _ _ _ _ _ _ _ _ => a
 | _ => { posonlyargs := [], args := [], vararg := none, kwonlyargs := [], kw_defaults := [], kwarg := none, defaults := [] }
def defBody (s : Stmt) : List Stmt := match s with
 | .FunctionDef _ _ b _ _ _ _ _ _ _ => b
 | _ => []
def defScope (s : Stmt) : Scope := match s with
 | .FunctionDef _ _ _ _ _ _ sc _ _ _ => sc
 | _ => { kind := .function, names := [], isGenerator := false, isCoroutine := false }
abbrev CX0 : CXT := fun _ _ _ _ _ _ => False
abbrev E0 : XK := fun _ _ _ => False
theorem yB {X : Cx} : Passes CX0 X E0 := fun _ _ _ _ _ _ _ h => h.elim
structure Fun (K : PySem.W.Frag) (x qual : Str) (st : Stmt) (f : Addr) (fd : FuncData) : Prop where
 ex : ∃ (oc : Value) (od : Option Addr) (kV doc pm : Value) (an : Option Addr) (cdv ct : Value) (osl : Array (Option Value)),
   fd = PySem.W.fnOf x qual (defArgs st) (defBody st) (defScope st) .none kV doc pm an cdv ct ∧ K.lookup f = some ⟨oc, od, .func fd, osl⟩ ∧ PySem.W.codeIn K cdv qual = true
 kp : PySem.W.keepIn K (.ref f) = true
section
variable {P : Program} {w : World} {K : PySem.W.Frag} {mg : Str → Option Value} {base : Heap}
theorem Fun.ok {x qual : Str} {st : Stmt} {f : Addr} {fd : FuncData} {N ps : List Str} {k : Nat} {sp : Sp} (F : Fun K x qual st f fd) (S : FnScope N ps (defScope st)) (len : ∀ vs H Q E, sp vs H Q E → vs.length = ps.length)
   (hbody : ∀ (cdv : Value) (A : Around) (outer : List Env) (s : Shared) (H : Hp) (vs : List V) (Q : VK) (E : XK), Room k (A.deeper (envOfC qual (defScope st) s.heap.objs.size f cdv)) → sp vs H Q E →
     ∃ t, PSs (cxOf CX0 P w K mg base N qual (defScope st) f cdv A outer s H E).nox (defBody st) t ∧ t { nx := fun _ H' => Q .non H', rt := Q } (start N vs) H) : FnOk P w K mg base CX0 (k + 1) f fd ps sp := by
 obtain ⟨oc, od, kV, doc, pm, an, cdv, ct, osl, rfl, lk, hcd⟩ := F.ex
 refine fn_of lk hcd S len fun A outer s H vs Q E hr hsp => ?_
 obtain ⟨t, h, q⟩ := hbody cdv A outer s H vs Q E hr hsp
 exact ⟨t, h.nox, q⟩
theorem Fun.binds {x qual : Str} {st : Stmt} {f : Addr} {fd : FuncData} {ps : List Str} (F : Fun K x qual st f fd)
   (h : ∀ (kV doc pm : Value) (an : Option Addr) (cdv ct : Value) (us : List Value), us.length = ps.length → bindArgs (PySem.W.fnOf x qual (defArgs st) (defBody st) (defScope st) .none kV doc pm an cdv ct) ⟨us, []⟩ = pure (ps.zip us)) : Binds K fd ps [] := by
 obtain ⟨oc, od, kV, doc, pm, an, cdv, ct, osl, rfl, lk, hcd⟩ := F.ex
 exact .all (h kV doc pm an cdv ct)
theorem fun_mk {x qual : Str} {st : Stmt} {f : Addr} {oc : Value} {od an : Option Addr} {osl : Array (Option Value)} {kV doc pm cdv ct : Value} (l : K.lookup f = some ⟨oc, od, .func (PySem.W.fnOf x qual (defArgs st) (defBody st) (defScope st) .none kV doc pm an cdv ct), osl⟩)
   (c : PySem.W.codeIn K cdv qual = true) (k : PySem.W.keepIn K (.ref f) = true) : Fun K x qual st f (PySem.W.fnOf x qual (defArgs st) (defBody st) (defScope st) .none kV doc pm an cdv ct) := ⟨⟨oc, od, kV, doc, pm, an, cdv, ct, osl, rfl, l, c⟩, k⟩
end
theorem xN {A : Around} {k : Nat} (hr : Room k A) : A.units + 1 < cLine := Nat.lt_of_le_of_lt (Nat.add_le_add_left (by decide : 1 ≤ 64) _) hr.units
section
variable {X : Cx}
theorem pv (i : Nat) {x : Str} {pos : Pos} (hN : X.N[i]? = some x := by rfl) (hv : Vis X.env.scope x := by first | exact Or.inl rfl | exact Or.inr (Or.inl rfl) | exact Or.inr (Or.inr rfl)) (hd : (x == ("__debug__" : Str)) = false := by decide)
   (hcd : (x == ("__classdict__" : Str)) = false := by decide) : PE X (.Name x pos) (tVar i) := pe_var hN hv hd hcd
end
theorem iteF {A B : Prop} (h : B) : if false = true then A else B := by
 rw [if_neg Bool.false_ne_true]
 exact h
theorem iteT {A B : Prop} (h : A) : if true = true then A else B := by
 rw [if_pos rfl]
 exact h
theorem ite2 {c A B : Prop} [Decidable c] (h1 : c → A) (h2 : ¬ c → B) : if c then A else B := by
 by_cases h : c
 · rw [if_pos h]
   exact h1 h
 · rw [if_neg h]
   exact h2 h
def Same (H H' : Hp) : Prop := ∀ b o, H b = some o → H' b = some o
theorem Same.refl (H : Hp) : Same H H := fun _ _ h => h
theorem Same.trans {H H1 H2 : Hp} (a : Same H H1) (b : Same H1 H2) : Same H H2 := fun c o h => b c o (a c o h)
theorem Same.free {H H' : Hp} (e : Same H H') {l : Addr} (h : H' l = Option.none) : H l = Option.none := by
 cases q : H l with
 | none => rfl
 | some o =>
   rw [e l o q] at h
   cases h
theorem Same.seq {K : PySem.W.Frag} {H H' : Hp} {a : Addr} {xs : List V} (e : Same H H') (h : SqL K H a xs) : SqL K H' a xs := by
 rcases h with (h | ⟨o, h⟩) | h
 · exact .inl (.inl (e _ _ h))
 · exact .inl (.inr ⟨o, e _ _ h⟩)
 · exact .inr h
end L2
namespace L2
open PySem PySem.Spec PyProof.Rows
section
variable {κ : Type} [DecidableEq κ]
def valV (kvs : List (κ × V)) (k : κ) : Option V := (kvs.find? fun kv => decide (kv.1 = k)).map (·.2)
def putK (kvs : List (κ × V)) (k : κ) (v : V) : List (κ × V) :=
 if (kvs.any fun kv => decide (kv.1 = k)) = true then kvs.map (fun kv => if kv.1 = k then (kv.1, v) else kv) else kvs ++ [(k, v)]
def dropK (kvs : List (κ × V)) (k : κ) : List (κ × V) := kvs.filter fun kv => decide (kv.1 ≠ k)
theorem xC {p : κ × V} {r : List (κ × V)} {k : κ} (e : p.1 = k) : valV (p :: r) k = some p.2 := by simp [valV, List.find?_cons, e]
theorem xB {p : κ × V} {r : List (κ × V)} {k : κ} (e : ¬ p.1 = k) : valV (p :: r) k = valV r k := by simp [valV, List.find?_cons, e]
theorem valV_any (k : κ) : ∀ kvs : List (κ × V), (kvs.any fun kv => decide (kv.1 = k)) = (valV kvs k).isSome
 | [] => rfl
 | p :: r => by
   rw [List.any_cons]
   by_cases e : p.1 = k
   · simp only [xC e, decide_eq_true e, Bool.true_or, Option.isSome_some]
   · rw [xB e, decide_eq_false e, Bool.false_or]; exact valV_any k r
theorem valV_map (k j : κ) (y : V) : ∀ kvs : List (κ × V), valV (kvs.map fun kv => if kv.1 = k then (kv.1, y) else kv) j = (valV kvs j).map fun x => if j = k then y else x
 | [] => rfl
 | p :: r => by
   have ih := valV_map k j y r
   rw [List.map_cons]
   by_cases h : p.1 = k
   · rw [if_pos h]
     by_cases e : p.1 = j
     · rw [xC (p := (p.1, y)) e, xC e, Option.map_some, if_pos (e.symm.trans h)]
     · rw [xB (p := (p.1, y)) e, xB e, ih]
   · rw [if_neg h]
     by_cases e : p.1 = j
     · rw [xC (p := p) e, xC e, Option.map_some, if_neg (fun z => h (e.trans z))]
     · rw [xB (p := p) e, xB e, ih]
theorem valV_snoc (k j : κ) (y : V) : ∀ kvs : List (κ × V), valV kvs k = none → valV (kvs ++ [(k, y)]) j = if j = k then some y else valV kvs j
 | [], _ => by
   by_cases e : k = j
   · rw [if_pos e.symm]; exact xC (p := (k, y)) e
   · rw [if_neg (fun z => e z.symm)]; exact xB (p := (k, y)) e
 | p :: r, hn => by
   rw [List.cons_append]
   have hk : ¬ p.1 = k := fun z => by rw [xC z] at hn; cases hn
   rw [xB hk] at hn
   have ih := valV_snoc k j y r hn
   by_cases e : p.1 = j
   · rw [xC e, xC e, if_neg (fun z => hk (e.trans z))]
   · rw [xB e, xB e, ih]
theorem valV_put (kvs : List (κ × V)) (k j : κ) (y : V) : valV (putK kvs k y) j = if j = k then some y else valV kvs j := by
 unfold putK
 by_cases a : (kvs.any fun kv => decide (kv.1 = k)) = true
 · rw [if_pos a, valV_map]
   rw [valV_any] at a
   by_cases e : j = k
   · obtain ⟨x, hx⟩ := Option.isSome_iff_exists.mp a
     rw [if_pos e, e, hx, Option.map_some, if_pos rfl]
   · rw [if_neg e]
     cases valV kvs j with
     | none => rfl
     | some x => rw [Option.map_some, if_neg e]
 · rw [if_neg a]
   refine valV_snoc k j y kvs ?_
   rw [valV_any] at a
   cases q : valV kvs k with
   | none => rfl
   | some x => rw [q] at a; exact (a rfl).elim
theorem xM (kvs : List (κ × V)) (k : κ) (v : V) : (putK kvs k v).length ≤ kvs.length + 1 := by
 unfold putK
 split
 · rw [List.length_map]; omega
 · rw [List.length_append, List.length_cons, List.length_nil]; omega
theorem putK_new {kvs : List (κ × V)} {k : κ} (v : V) (h : valV kvs k = none) : putK kvs k v = kvs ++ [(k, v)] := by
 unfold putK
 rw [valV_any, h]
 exact if_neg (by decide)
theorem RelO.isSome_eq {o : Option V} {u : Option Value} (r : RelO o u) : o.isSome = u.isSome := by
 cases o with
 | none => cases u with
   | none => rfl
   | some _ => exact (show False from r).elim
 | some _ => cases u with
   | none => exact (show False from r).elim
   | some _ => rfl
theorem RelO.getD {o : Option V} {u : Option Value} {d : V} {d' : Value} (r : RelO o u) (rd : RelV d d') : RelV (o.getD d) (u.getD d') := by
 cases o with
 | none => cases u with
   | none => exact rd
   | some _ => exact (show False from r).elim
 | some _ => cases u with
   | none => exact (show False from r).elim
   | some _ => exact r
theorem KV.val {kvs : List (κ × V)} {vs : List (κ × Value)} (r : KV kvs vs) (k : κ) : RelO (valV kvs k) (valueAt vs k) := by
 unfold KV at r
 induction r with
 | nil => exact True.intro
 | @cons p q ps qs h t ih =>
   obtain ⟨h1, h2⟩ := h
   by_cases e : p.1 = k
   · have e' : q.1 = k := h1.symm.trans e
     have b : valueAt (q :: qs) k = some q.2 := by simp [valueAt, List.find?_cons, e']
     rw [xC e, b]; exact h2
   · have e' : ¬ q.1 = k := fun z => e (h1.trans z)
     have b : valueAt (q :: qs) k = valueAt qs k := by simp [valueAt, List.find?_cons, e']
     rw [xB e, b]; exact ih
theorem KV.any {kvs : List (κ × V)} {vs : List (κ × Value)} (r : KV kvs vs) (k : κ) : (kvs.any fun kv => decide (kv.1 = k)) = vs.any fun kv => decide (kv.1 = k) := by
 unfold KV at r
 induction r with
 | nil => rfl
 | cons h t ih => rw [List.any_cons, List.any_cons, ih, h.1]
theorem KV.repl {kvs : List (κ × V)} {vs : List (κ × Value)} (r : KV kvs vs) (k : κ) {y : V} {u : Value} (ry : RelV y u) :
   KV (kvs.map fun kv => if kv.1 = k then (kv.1, y) else kv) (vs.map fun kv => if kv.1 = k then (kv.1, u) else kv) := by
 unfold KV at r ⊢
 induction r with
 | nil => exact .nil
 | @cons p q ps qs h t ih =>
   rw [List.map_cons, List.map_cons]
   refine .cons ?_ ih
   obtain ⟨h1, h2⟩ := h
   by_cases e : p.1 = k
   · rw [if_pos e, if_pos (h1.symm.trans e)]; exact ⟨h1, ry⟩
   · rw [if_neg e, if_neg (fun z => e (h1.trans z))]; exact ⟨h1, h2⟩
theorem KV.put {kvs : List (κ × V)} {vs : List (κ × Value)} (r : KV kvs vs) (k : κ) {y : V} {u : Value} (ry : RelV y u) : KV (putK kvs k y) (stored vs k u) := by
 unfold putK stored
 rw [r.any k]
 by_cases e : (vs.any fun kv => decide (kv.1 = k)) = true
 · rw [if_pos e, if_pos e]; exact r.repl k ry
 · rw [if_neg e, if_neg e]; exact Paired.snoc r ⟨rfl, ry⟩
theorem KV.drop {kvs : List (κ × V)} {vs : List (κ × Value)} (r : KV kvs vs) (k : κ) : KV (dropK kvs k) (without vs k) := by
 unfold KV at r ⊢
 unfold dropK without
 induction r with
 | nil => exact .nil
 | @cons p q ps qs h t ih =>
   obtain ⟨h1, h2⟩ := h
   rw [List.filter_cons, List.filter_cons]
   by_cases e : p.1 = k
   · have a : ¬ decide (p.1 ≠ k) = true := by simp [e]
     have b : ¬ decide (q.1 ≠ k) = true := by simp [h1.symm.trans e]
     rw [if_neg a, if_neg b]; exact ih
   · have e' : ¬ q.1 = k := fun z => e (h1.trans z)
     have a : decide (p.1 ≠ k) = true := by simp [e]
     have b : decide (q.1 ≠ k) = true := by simp [e']
     rw [if_pos a, if_pos b]; exact .cons ⟨h1, h2⟩ ih
theorem KV.keys {kvs : List (κ × V)} {vs : List (κ × Value)} (r : KV kvs vs) : kvs.map (·.1) = vs.map (·.1) := by
 unfold KV at r
 induction r with
 | nil => rfl
 | cons h t ih => rw [List.map_cons, List.map_cons, ih, h.1]
theorem KV.length {kvs : List (κ × V)} {vs : List (κ × Value)} (r : KV kvs vs) : kvs.length = vs.length := Paired.length r
end
theorem kV_is {P : Program} {w : World} {k : Key} {u : Value} (r : RelV (kV k) u) : (mixKind P w).is k u = true := by
 cases k with
 | inl i => obtain ⟨t, e⟩ := (show ∃ t, u = Value.int i t from r); subst e; exact mixKind_int P w i t
 | inr x => obtain ⟨t, e⟩ := (show ∃ t, u = Value.str x t from r); subst e; exact mixKind_str P w x t
theorem items_are {P : Program} {w : World} : ∀ {ks : List Key} {us : List Value}, Vals (ks.map kV) us → ItemsAre (mixKind P w) ks us
 | [], _, r => by rw [List.map_nil] at r; cases r; exact .nil
 | k :: ks, _, r => by
   rw [List.map_cons] at r
   cases r with
   | cons h t => exact .cons (kV_is h) (items_are t)
abbrev KT (H : Hp) : List (List Key × V) → List (List Key × Addr × Value) → Prop := Paired fun p q => p.1 = q.1 ∧ H q.2.1 = some (.tup (p.1.map kV)) ∧ RelV p.2 q.2.2
theorem KT.val {H : Hp} {kvs : List (List Key × V)} {xs : List (List Key × Addr × Value)} (r : KT H kvs xs) (k : List Key) : RelO (valV kvs k) ((atKey xs k).map (·.2)) := by
 induction r with
 | nil => exact True.intro
 | @cons p q ps qs h t ih =>
   obtain ⟨h1, _, h2⟩ := h
   by_cases e : p.1 = k
   · have e' : q.1 = k := h1.symm.trans e
     have b : atKey (q :: qs) k = some q.2 := by simp [atKey, List.find?_cons, e']
     rw [xC e, b]; exact h2
   · have e' : ¬ q.1 = k := fun z => e (h1.trans z)
     have b : atKey (q :: qs) k = atKey qs k := by simp [atKey, List.find?_cons, e']
     rw [xB e, b]; exact ih
theorem KT.repl {H : Hp} {kvs : List (List Key × V)} {xs : List (List Key × Addr × Value)} (r : KT H kvs xs) (k : List Key) {y : V} {u : Value} (ry : RelV y u) :
   KT H (kvs.map fun kv => if kv.1 = k then (kv.1, y) else kv) (xs.map (putAt k u)) := by
 induction r with
 | nil => exact .nil
 | @cons p q ps qs h t ih =>
   rw [List.map_cons, List.map_cons]
   refine .cons ?_ ih
   obtain ⟨h1, h2, h3⟩ := h
   unfold putAt
   by_cases e : p.1 = k
   · rw [if_pos e, if_pos (h1.symm.trans e)]; exact ⟨h1, h2, ry⟩
   · rw [if_neg e, if_neg (fun z => e (h1.trans z))]; exact ⟨h1, h2, h3⟩
theorem KT.put {H : Hp} {kvs : List (List Key × V)} {xs : List (List Key × Addr × Value)} (r : KT H kvs xs) (k : List Key) {b : Addr} {y : V} {u : Value} (hb : H b = some (.tup (k.map kV))) (ry : RelV y u) :
   KT H (putK kvs k y) (storedH xs k b u) := by
 have e : (kvs.any fun kv => decide (kv.1 = k)) = (atKey xs k).isSome := by
   rw [valV_any, (r.val k).isSome_eq, Option.isSome_map]
 unfold putK storedH
 rw [e]
 by_cases q : (atKey xs k).isSome = true
 · rw [if_pos q, if_pos q]; exact r.repl k ry
 · rw [if_neg q, if_neg q]; exact Paired.snoc r ⟨rfl, hb, ry⟩
theorem KT.keeps {H H' : Hp} {kvs : List (List Key × V)} {xs : List (List Key × Addr × Value)} (r : KT H kvs xs) (ht : ∀ b ys, H b = some (.tup ys) → H' b = some (.tup ys)) : KT H' kvs xs :=
 Paired.mapP r fun _ _ z => ⟨z.1, ht _ _ z.2.1, z.2.2⟩
section
variable {P : Program} {w : World} {H : Hp} {h : Heap} {a : Addr}
theorem rd_of {u : HO} (ok : HOk P w H h) (e : Rd H a u) : ObjOk P w H h a u := e.ok ok
theorem dk_rd {kvs : List (Key × V)} (ok : HOk P w H h) (e : Rd H a (.dK kvs)) : kvs.length ≤ sizeLine ∧ (a == sysModules) = false ∧ ∃ vs, KV kvs vs ∧ h.DictOf (mixKind P w) a vs :=
 show ObjOk P w H h a (.dK kvs) from rd_of ok e
theorem dk_of {kvs : List (Key × V)} (ok : HOk P w H h) (e : H a = some (.dK kvs)) : kvs.length ≤ sizeLine ∧ (a == sysModules) = false ∧ ∃ vs, KV kvs vs ∧ h.DictOf (mixKind P w) a vs := dk_rd ok (.inl e)
theorem key_of {ks : List Key} (ok : HOk P w H h) (e : H a = some (.tup (ks.map kV))) : (tupleKind (mixKind P w)).is h ks a := by
 obtain ⟨_, its, r, o, h1, h2, n, h3⟩ := (show ObjOk P w H h a (.tup (ks.map kV)) from ok a _ e)
 exact ⟨o, its.toArray, n, h1, h2, h3, by simpa using items_are r⟩
theorem dt_rd {kvs : List (List Key × V)} (ok : HOk P w H h) (e : Rd H a (.dT kvs)) : kvs.length ≤ sizeLine ∧ (a == sysModules) = false ∧
   ∃ xs, KT H kvs xs ∧ h.DictOfH (tupleKind (mixKind P w)) a xs := by
 obtain ⟨z, y, xs, r, o, es, ep, h1, h2, h3, h4, h5⟩ := (show ObjOk P w H h a (.dT kvs) from rd_of ok e)
 refine ⟨z, y, xs, r, o, es, ep, h1, h2, h3, h4, fun x hx => ?_, h5⟩
 have all : ∀ {l : List (List Key × V)} {m : List (List Key × Addr × Value)}, KT H l m → ∀ x ∈ m, (tupleKind (mixKind P w)).is h x.1 x.2.1 := by
   intro l m q
   induction q with
   | nil => intro x hx; exact nomatch hx
   | @cons p q ps qs hq t ih =>
     intro x hx
     rcases List.mem_cons.mp hx with e | hx
     · subst e
       exact key_of ok (by rw [← hq.1]; exact hq.2.1)
     · exact ih x hx
 exact all r x hx
theorem dt_of {kvs : List (List Key × V)} (ok : HOk P w H h) (e : H a = some (.dT kvs)) : kvs.length ≤ sizeLine ∧ (a == sysModules) = false ∧
   ∃ xs, KT H kvs xs ∧ h.DictOfH (tupleKind (mixKind P w)) a xs := dt_rd ok (.inl e)
end
def DGet (H : Hp) (a : Addr) (y : V) (r : Option V) : Prop :=
 (∃ kvs k, Rd H a (.dK kvs) ∧ y = kV k ∧ r = valV kvs k) ∨ ∃ kvs k b, Rd H a (.dT kvs) ∧ y = .ref b ∧ H b = some (.tup (k.map kV)) ∧ r = valV kvs k
def DPut (H : Hp) (a : Addr) (y v : V) (H' : Hp) : Prop :=
 (∃ kvs k, H a = some (.dK kvs) ∧ y = kV k ∧ kvs.length < sizeLine ∧ H' = upd H a (.dK (putK kvs k v))) ∨
 ∃ kvs k b, H a = some (.dT kvs) ∧ y = .ref b ∧ H b = some (.tup (k.map kV)) ∧ kvs.length < sizeLine ∧ H' = upd H a (.dT (putK kvs k v))
theorem DGet.k {H : Hp} {a : Addr} {kvs : List (Key × V)} {k : Key} (e : H a = some (.dK kvs)) : DGet H a (kV k) (valV kvs k) := .inl ⟨kvs, k, .inl e, rfl, rfl⟩
theorem DGet.t {H : Hp} {a b : Addr} {kvs : List (List Key × V)} {k : List Key} (e : H a = some (.dT kvs)) (eb : H b = some (.tup (k.map kV))) : DGet H a (.ref b) (valV kvs k) := .inr ⟨kvs, k, b, .inl e, rfl, eb, rfl⟩
theorem DPut.k {H : Hp} {a : Addr} {kvs : List (Key × V)} {k : Key} {v : V} (e : H a = some (.dK kvs)) (hl : kvs.length < sizeLine) : DPut H a (kV k) v (upd H a (.dK (putK kvs k v))) := .inl ⟨kvs, k, e, rfl, hl, rfl⟩
theorem DPut.t {H : Hp} {a b : Addr} {kvs : List (List Key × V)} {k : List Key} {v : V} (e : H a = some (.dT kvs)) (eb : H b = some (.tup (k.map kV))) (hl : kvs.length < sizeLine) :
   DPut H a (.ref b) v (upd H a (.dT (putK kvs k v))) := .inr ⟨kvs, k, b, e, rfl, eb, hl, rfl⟩
section
variable {X : Cx} {pins : List (Addr × Obj)} {σ : St} {H : Hp} {s : Shared} {a : Addr} {y v : V} {u r : Value} {o : Option V} {A : Around} {E : Value → Shared → Prop}
theorem Inv.big (I : Inv X pins σ H s) : sysModules < s.heap.objs.size := by
 have h : mainGlobals < s.heap.objs.size := (I.mod.glob.keeps I.bk).lt
 exact Nat.lt_trans (by decide) h
theorem d_getItem {Q : Value → Shared → Prop} (hu : A.units + 1 < cLine) (I : Inv X pins σ H s) (g : DGet H a y (some v)) (ry : RelV y u) (h : ∀ w' s', Inv X pins σ H s' → RelV v w' → Q w' s') :
   wpAny (model X.prog X.w) A (getItem (.ref a) u) Q E s := by
 rcases g with ⟨kvs, k, e, ey, l⟩ | ⟨kvs, k, b, e, ey, eb, l⟩
 · subst ey
   obtain ⟨z, hd, vs, rel, dd⟩ := dk_rd I.hok e
   obtain ⟨w', hw, rw'⟩ := RelO.some_of (v := v) (o := valueAt vs k) (by rw [l]; exact rel.val k)
   exact wpAny_getItem_of (kV_is ry) dd.mapOf hw (h w' _ (I.tok _) rw')
 · subst ey
   cases (show u = Value.ref b from ry)
   obtain ⟨z, hd, xs, rel, dd⟩ := dt_rd I.hok e
   obtain ⟨w', hw, rw'⟩ := RelO.some_of (v := v) (o := (atKey xs k).map (·.2)) (by rw [l]; exact rel.val k)
   obtain ⟨p, hp, hp2⟩ := Option.map_eq_some_iff.mp hw
   refine wpAny_getItem_heap (tupleKind_room_in1 hu) (key_of I.hok eb) dd hp ?_
   rw [hp2]
   exact h w' _ (I.tok _) rw'
theorem d_in {Q : Value → Shared → Prop} (hu : A.units + 1 < cLine) (I : Inv X pins σ H s) (g : DGet H a y o) (ry : RelV y u) (h : ∀ s', Inv X pins σ H s' → Q (.bool o.isSome) s') :
   wpAny (model X.prog X.w) A (compareOp .In u (.ref a)) Q E s := by
 rcases g with ⟨kvs, k, e, ey, l⟩ | ⟨kvs, k, b, e, ey, eb, l⟩
 · subst ey
   obtain ⟨z, hd, vs, rel, dd⟩ := dk_rd I.hok e
   refine wpAny_in_of (kV_is ry) hd dd.mapOf ?_
   rw [← (rel.val k).isSome_eq, ← l]
   exact h _ (I.tok _)
 · subst ey
   cases (show u = Value.ref b from ry)
   obtain ⟨z, hd, xs, rel, dd⟩ := dt_rd I.hok e
   refine wpAny_in_heap (tupleKind_room_in1 hu) (key_of I.hok eb) hd dd ?_
   have q := (rel.val k).isSome_eq
   rw [Option.isSome_map] at q
   rw [← q, ← l]
   exact h _ (I.tok _)
theorem d_notIn {Q : Value → Shared → Prop} (hu : A.units + 1 < cLine) (I : Inv X pins σ H s) (g : DGet H a y o) (ry : RelV y u) (h : ∀ s', Inv X pins σ H s' → Q (.bool (!o.isSome)) s') :
   wpAny (model X.prog X.w) A (compareOp .NotIn u (.ref a)) Q E s := by
 rcases g with ⟨kvs, k, e, ey, l⟩ | ⟨kvs, k, b, e, ey, eb, l⟩
 · subst ey
   obtain ⟨z, hd, vs, rel, dd⟩ := dk_rd I.hok e
   refine wpAny_notIn_of (kV_is ry) hd dd.mapOf ?_
   rw [← (rel.val k).isSome_eq, ← l]
   exact h _ (I.tok _)
 · subst ey
   cases (show u = Value.ref b from ry)
   obtain ⟨z, hd, xs, rel, dd⟩ := dt_rd I.hok e
   refine wpAny_notIn_heap (tupleKind_room_in1 hu) (key_of I.hok eb) hd dd ?_
   have q := (rel.val k).isSome_eq
   rw [Option.isSome_map] at q
   rw [← q, ← l]
   exact h _ (I.tok _)
theorem d_write {h' : Heap} {t' : Nat} {ob : HO} (I : Inv X pins σ H s) (mu : Mut (H a)) (hs : Heap.SameBut a s.heap h') (he : ∃ q, h'.get? a = some q) (new : ObjOk X.prog X.w (upd H a ob) h' a ob) :
   Inv X pins σ (upd H a ob) { s with heap := h', toks := t' } :=
 I.write (x := a) (e := a) mu (.inl rfl) (fun b q hb z => (hs.2 b hb).trans z) he new
theorem dk_new {P : Program} {w : World} {H' : Hp} {h' : Heap} {kvs : List (Key × V)} {vs : List (Key × Value)} (z : kvs.length ≤ sizeLine) (hd : (a == sysModules) = false) (rel : KV kvs vs) (dd : h'.DictOf (mixKind P w) a vs) :
   ObjOk P w H' h' a (.dK kvs) := ⟨z, hd, vs, rel, dd⟩
theorem d_setItem {H' : Hp} {Q : Unit → Shared → Prop} (hu : A.units + 1 < cLine) (I : Inv X pins σ H s) (g : DPut H a y v H') (ry : RelV y u) (rv : RelV v r) (h : ∀ s', Inv X pins σ H' s' → Q () s') :
   wpAny (model X.prog X.w) A (setItem (.ref a) u r) Q E s := by
 rcases g with ⟨kvs, k, e, ey, l, eH⟩ | ⟨kvs, k, b, e, ey, eb, l, eH⟩
 · subst ey eH
   obtain ⟨z, hd, vs, rel, dd⟩ := dk_of I.hok e
   have hz : vs.length ≤ sizeLine := by rw [← rel.length]; exact z
   have hl : (putK kvs k v).length ≤ sizeLine := by have := xM kvs k v; omega
   refine wpAny_setItem_pairs (hsz := hz) (kV_is ry) dd fun h' dd' hs => h _ ?_
   have he : ∃ q, h'.get? a = some q := let ⟨q, _, _, hq, _⟩ := dd'; ⟨q, hq⟩
   exact d_write I (by rw [e]; exact True.intro) hs he (dk_new hl hd (rel.put k rv) dd')
 · subst ey eH
   cases (show u = Value.ref b from ry)
   obtain ⟨z, hd, xs, rel, dd⟩ := dt_of I.hok e
   have hz : xs.length ≤ sizeLine := by rw [← Paired.length rel]; exact z
   have hl : (putK kvs k v).length ≤ sizeLine := by have := xM kvs k v; omega
   refine wpAny_setItem_heap (hsz := hz) (tupleKind_room_in1 hu) (key_of I.hok eb) dd fun h' dd' hs => h _ ?_
   obtain ⟨q, es, ep, hq, h2, h3, h4, _, h5⟩ := dd'
   refine d_write I (by rw [e]; exact True.intro) hs ⟨q, hq⟩ ⟨hl, hd, _, (rel.put k eb rv).keeps fun c ys ec => ?_, q, es, ep, hq, h2, h3, h4, h5⟩
   rw [zK (ne_of ec e (fun z => nomatch z))]
   exact ec
end
section
variable {X : Cx} {pins : List (Addr × Obj)} {σ : St} {H : Hp} {s : Shared} {a : Addr} {kvs : List (Key × V)} {k : Key} {u : Value} {A : Around} {E : Value → Shared → Prop}
theorem d_len {Q : Value → Shared → Prop} (I : Inv X pins σ H s) (e : Rd H a (.dK kvs)) (h : ∀ t s', Inv X pins σ H s' → Q (.int kvs.length t) s') : wpAny (model X.prog X.w) A (call (.builtin "len") [.ref a]) Q E s := by
 obtain ⟨z, hd, vs, rel, dd⟩ := dk_rd I.hok e
 refine call_len_dict hd dd (by rw [← rel.length]; rw [sizeLine_eq] at z; omega) ?_
 rw [← rel.length]
 exact h _ _ (I.tok _)
end
def NoSl (i : Expr) : Prop := ∀ ov iv, subscripted i false ov iv = operate [ov, iv] (getItem ov iv)
theorem subD_of {prog : Program} {w : World} {A : Around} {E : Value → Shared → Prop} {s : Shared} {env : Env} {value slice : Expr} {pos : Pos} {T id : String} {Q : Value → Shared → Prop}
   (hl : typeLookup (.type T) "__getitem__" = pure (some (.builtin id))) (hs : NoSl slice)
   (h : wpAny (model prog w) A (eval value env) (fun o s₁ => wpAny (model prog w) A (eval slice env) (fun i s₂ => s₂.TypeIs o T ∧ wpAny (model prog w) A (getItem o i) Q E s₂) E s₁) E s) :
   wpAny (model prog w) A (eval (.Subscript value slice pos) env) Q E s := by
 refine Subscript_ (wpAny_mono h (fun o s₁ h₁ => wpAny_mono h₁ (fun i s₂ h₂ => ?_) fun _ _ x => x) fun _ _ x => x)
 obtain ⟨hT, h₂⟩ := h₂
 unfold subscriptTail
 refine wpAny_bind ?_
 rw [getitemInPython_of_ne hT.not_modules]
 refine wpAny_bind (wpAny_specialOf hT hl ?_)
 have fin : wpAny (model prog w) A (subscripted slice false o i) (fun r s₃ => wpAny (model prog w) A (letTemporaryGo value o r >>= fun _ => pure r) Q E s₃) E s₂ := by
   rw [hs o i]
   exact wpAny_operating (wpAny_mono h₂ (fun r s₃ h₃ => wpAny_bind (wpAny_letTemporaryGo (wpAny_pure h₃))) fun _ _ x => x)
 first
   | exact wpAny_pure (wpAny_bind fin)
   | exact wpAny_bind (wpAny_pure (wpAny_bind fin))
   | exact wpAny_bind fin
theorem dict_typeIs {X : Cx} {pins : List (Addr × Obj)} {σ : St} {H : Hp} {s : Shared} {a : Addr} {y : V} {o : Option V} (I : Inv X pins σ H s) (g : DGet H a y o) : s.TypeIs (.ref a) "dict" := by
 rcases g with ⟨kvs, k, e, _, _⟩ | ⟨kvs, k, b, e, _, _, _⟩
 · obtain ⟨_, _, vs, _, dd⟩ := dk_rd I.hok e
   exact dd.typeIs
 · obtain ⟨_, _, xs, _, dd⟩ := dt_rd I.hok e
   exact dd.typeIs
def tDGet (td ty : TE) : TE := fun σ H Q => td σ H fun x H1 => ty σ H1 fun y H2 => ∃ a v, x = .ref a ∧ DGet H2 a y (some v) ∧ Q v H2
def sDPut (td ty tv : TE) : TS := fun D σ H => tv σ H fun v H1 => td σ H1 fun x H2 => ty σ H2 fun y H3 => ∃ a H4, x = .ref a ∧ DPut H3 a y v H4 ∧ D.nx σ H4
section
variable {X : Cx} {o i e value : Expr} {pos pos' tpos : Pos} {td ty tv : TE}
theorem pe_dget (hu : X.A.units + 1 < cLine) (ho : PE X o td) (hi : PE X i ty) (hs : NoSl i) : PE X (.Subscript o i pos) (tDGet td ty) := by
 intro pins s σ H Q I h
 refine subD_of PySem.F.slot_dict_getitem.lookup hs (thn (ho pins s σ H _ I h) fun u s1 ⟨x, H1, I1, rx, q1⟩ => thn (hi pins s1 σ H1 _ I1 q1) fun iv s2 ⟨y, H2, I2, ry, a, v, ex, g, q2⟩ => ?_)
 subst ex
 obtain rfl : u = Value.ref a := rx
 exact ⟨dict_typeIs I2 g, d_getItem hu I2 g ry fun w' s3 I3 rw' => ⟨v, H2, I3, rw', q2⟩⟩
theorem ps_dput (hu : X.A.units + 1 < cLine) (ho : PE X o td) (hi : PE X i ty) (hv : PE X value tv) (hs : swapsWith value (some (.Subscript o i pos')) pos.line X.env = pure false) :
   PS X (.Assign [.Subscript o i pos'] value pos) (sDPut td ty tv) := by
 intro pins s σ H D I h
 refine wpAny_Assign_Subscript (thn (hv pins s σ H _ I h) fun r s1 ⟨v, H1, I1, rv, q1⟩ => thn (ho pins s1 σ H1 _ I1 q1) fun u s2 ⟨x, H2, I2, rx, q2⟩ => thn (hi pins s2 σ H2 _ I2 q2) fun iv s3 ⟨y, H3, I3, ry, a, H4, ex, g, q3⟩ => ?_) hs
 subst ex
 obtain rfl : u = Value.ref a := rx
 exact d_setItem hu I3 g ry rv fun s4 I4 => ⟨σ, H4, I4, q3⟩
end
theorem dk_empty {P : Program} {w : World} {H : Hp} (h : Heap) (hb : sysModules < h.objs.size) : ObjOk P w H (h.push { cls := .type "dict", data := .dict #[] }) h.objs.size (.dK []) :=
 ⟨Nat.zero_le _, beq_eq_false_iff_ne.mpr (Ne.symm (Nat.ne_of_lt hb)), [], .nil, Heap.DictOf.new h⟩
def tDNewK : TE := fun _ H Q => ∀ p, H p = none → Q (.ref p) (upd H p (.dK []))
section
variable {X : Cx} {pos : Pos}
theorem pe_dnewK : PE X (.Dict [] [] pos) tDNewK := fun pins s σ H Q I h =>
 wpAny_Dict_empty ⟨.ref s.heap.objs.size, _, I.laid (a := s.heap.objs.size) (o := .dK []) (t' := s.toks) (fun _ _ q => Heap.get?_push_of_some _ q) (Nat.le_refl _) (dk_empty s.heap I.big), rfl, h _ (I.hok.fresh (Nat.le_refl _))⟩
end
def tPairs : List (TE × TE) → St → Hp → (List (V × V) → Hp → Prop) → Prop
 | [], _, H, Q => Q [] H
 | (tk, tv) :: r, σ, H, Q => tk σ H fun x H1 => tv σ H1 fun y H2 => tPairs r σ H2 fun ps H3 => Q ((x, y) :: ps) H3
abbrev VV : List (V × V) → List (Value × Value) → Prop := Paired fun p q => RelV p.1 q.1 ∧ RelV p.2 q.2
def PPs (X : Cx) (pos : Pos) (keys : List (Option Expr)) (values : List Expr) (trs : List (TE × TE)) : Prop :=
 ∀ (pins : List (Addr × Obj)) (s : Shared) (σ : St) (H : Hp) (Q : List (V × V) → Hp → Prop), Inv X pins σ H s → tPairs trs σ H Q →
   wpAny (model X.prog X.w) X.A (evalPairs (pairTrees keys values X.env pos)) (fun vs s' => ∃ ps H', Inv X pins σ H' s' ∧ VV ps vs ∧ Q ps H') X.xe s
def mergeK (kvs more : List (Key × V)) : List (Key × V) := more.foldl (fun acc kv => putK acc kv.1 kv.2) kvs
theorem KV.merge : ∀ {more : List (Key × V)} {rs : List (Key × Value)} {kvs : List (Key × V)} {vs : List (Key × Value)}, KV more rs → KV kvs vs → KV (mergeK kvs more) (merged vs rs) := by
 intro more rs kvs vs r
 unfold KV at r
 induction r generalizing kvs vs with
 | nil => intro q; exact q
 | @cons p q ps qs h t ih =>
   intro r0
   have e : KV (putK kvs p.1 p.2) (stored vs q.1 q.2) := by
     have := r0.put p.1 h.2
     rw [← h.1]; exact this
   exact ih e
theorem length_mergeK : ∀ (more kvs : List (Key × V)), (mergeK kvs more).length ≤ kvs.length + more.length
 | [], kvs => by show kvs.length ≤ kvs.length + 0; omega
 | p :: r, kvs => by
   have h1 := length_mergeK r (putK kvs p.1 p.2)
   have h2 := xM kvs p.1 p.2
   show (mergeK (putK kvs p.1 p.2) r).length ≤ _
   rw [List.length_cons]; omega
structure M1 (X : Cx) (o : Expr) (m : Str) (apos : Pos) (e : Expr) (cpos : Pos) : Prop where
 base : attributeBase o m X.env (eval o X.env) = eval o X.env
 few : ((backTo cpos (starEach [e] X.env)).all (fun x => !x.1) && (backToKw cpos (keywordEach [] X.env)).all (fun x => x.1.isSome)
   && decide (([e] : List Expr).length + ([] : List Keyword).length + (if ([] : List Keyword).isEmpty then 0 else 1) < 30)) = true
 line : (apos.endLine == cpos.line) = true
 trees : backTo cpos (starEach [e] X.env) = [(false, eval e X.env)]
structure M2 (X : Cx) (o : Expr) (m : Str) (apos : Pos) (e f : Expr) (cpos : Pos) : Prop where
 base : attributeBase o m X.env (eval o X.env) = eval o X.env
 few : ((backTo cpos (starEach [e, f] X.env)).all (fun x => !x.1) && (backToKw cpos (keywordEach [] X.env)).all (fun x => x.1.isSome)
   && decide (([e, f] : List Expr).length + ([] : List Keyword).length + (if ([] : List Keyword).isEmpty then 0 else 1) < 30)) = true
 line : (apos.endLine == cpos.line) = true
 trees : backTo cpos (starEach [e, f] X.env) = [(false, eval e X.env), (false, eval f X.env)]
def IsD (H : Hp) (a : Addr) : Prop := (∃ kvs, Rd H a (.dK kvs)) ∨ ∃ kvs, Rd H a (.dT kvs)
theorem isD_at {X : Cx} {pins : List (Addr × Obj)} {σ : St} {H : Hp} {s : Shared} {a : Addr} (I : Inv X pins σ H s) (d : IsD H a) :
   s.TypeIs (.ref a) "dict" ∧ (∀ b, Value.ref a = .ref b → ∃ ob, s.heap.get? b = some ob ∧ ob.dict = none) ∧ (a == sysModules) = false := by
 rcases d with ⟨kvs, e⟩ | ⟨kvs, e⟩
 · obtain ⟨_, hd, vs, _, dd⟩ := dk_rd I.hok e
   refine ⟨dd.typeIs, fun b q => ?_, hd⟩
   cases q
   obtain ⟨ob, _, _, h1, h2, _⟩ := dd
   exact ⟨ob, h1, h2.2.1⟩
 · obtain ⟨_, hd, xs, _, dd⟩ := dt_rd I.hok e
   refine ⟨dd.typeIs, fun b q => ?_, hd⟩
   cases q
   obtain ⟨ob, _, _, h1, h2, _⟩ := dd
   exact ⟨ob, h1, h2.2.1⟩
section
variable {X : Cx} {pins : List (Addr × Obj)} {σ : St} {H : Hp} {s : Shared} {a : Addr} {y d : V} {u r : Value} {o : Option V} {A : Around} {E : Value → Shared → Prop}
theorem d_get1 {Q : Value → Shared → Prop} (hu : A.units + 1 < cLine) (I : Inv X pins σ H s) (g : DGet H a y o) (ry : RelV y u) (h : ∀ w' s', Inv X pins σ H s' → RelV (o.getD .non) w' → Q w' s') :
   wpAny (model X.prog X.w) A (call (.builtin "dict.get") [.ref a, u]) Q E s := by
 rcases g with ⟨kvs, k, e, ey, l⟩ | ⟨kvs, k, b, e, ey, eb, l⟩
 · subst ey
   obtain ⟨z, hd, vs, rel, dd⟩ := dk_rd I.hok e
   refine call_meetsIn PySem.F.slot_dict_get dd.typeIs PySem.F.entry_dict_get (PySem.F.args_dict_get_2 _ _) (meets_dict_get (mixKind X.prog X.w) a (kV_is ry) hd) ⟨_, dd.mapOf, h _ _ (I.tok _) ?_⟩
   rw [l]
   exact (rel.val k).getD rfl
 · subst ey
   cases (show u = Value.ref b from ry)
   obtain ⟨z, hd, xs, rel, dd⟩ := dt_rd I.hok e
   refine call_meetsIn PySem.F.slot_dict_get dd.typeIs PySem.F.entry_dict_get (PySem.F.args_dict_get_2 _ _) (meetsH_dict_get (tupleKind (mixKind X.prog X.w)) a b hd) ⟨tupleKind_room_in1 hu, k, xs, key_of I.hok eb, dd, h _ _ (I.tok _) ?_⟩
   rw [l]
   exact (rel.val k).getD rfl
end
def tDGet1 (td ty : TE) : TE := fun σ H Q => td σ H fun x H1 => ∃ a, x = .ref a ∧ IsD H1 a ∧ ty σ H1 fun y H2 => ∃ o, DGet H2 a y o ∧ Q (o.getD .non) H2
section
variable {X : Cx} {o e f : Expr} {apos cpos : Pos} {td ty tx : TE}
theorem pe_dget1 (hu : X.A.units + 1 < cLine) (ho : PE X o td) (he : PE X e ty) (m : M1 X o "get" apos e cpos) : PE X (.Call (.Attribute o "get" apos) [e] [] cpos) (tDGet1 td ty) := by
 intro pins s σ H Q I h
 refine wpAny_Call_method m.base m.few m.line PySem.F.plainAttrs_dict PySem.F.slot_dict_get PySem.F.type_dict_get (thn (ho pins s σ H _ I h) fun u s1 ⟨x, H1, I1, rx, a, ex, d, q1⟩ => ?_)
 subst ex
 obtain rfl : u = Value.ref a := rx
 obtain ⟨t1, t2, _⟩ := isD_at I1 d
 refine ⟨t1, t2, ?_⟩
 rw [m.trees]
 refine Calls.callWith_builtin rfl (Calls.evalArgs_plain (Calls.spliced_cons (thn (he pins s1 σ H1 _ I1 q1) fun iv s2 ⟨y, H2, I2, ry, ov, g, q2⟩ => Calls.spliced_nil ?_)))
 exact d_get1 hu I2 g ry fun w' s3 I3 rw' => ⟨_, H2, I3, rw', q2⟩
end
section
variable {X : Cx} {pins : List (Addr × Obj)} {σ : St} {H : Hp} {s : Shared} {a : Addr} {kvs : List (Key × V)} {A : Around} {E : Value → Shared → Prop}
end
section
variable {X : Cx} {pins : List (Addr × Obj)} {σ : St} {H : Hp} {s : Shared} {a : Addr} {y : V} {u : Value} {A : Around} {E : Value → Shared → Prop}
end
end L2
namespace L2
open PySem PySem.Spec PyProof.Rows
section
variable {X : Cx}
theorem call_lenD : CallR X (.builtin "len") (fun xs H Q => ∃ a kvs, xs = [V.ref a] ∧ H a = some (.dK kvs) ∧ Q (.int kvs.length) H) := by
 intro pins s σ H xs us Q I r h
 obtain ⟨a, kvs, rfl, ha, q⟩ := h
 obtain ⟨u, rfl, ru⟩ := vals1 r
 cases ru
 exact d_len I (.inl ha) fun t s' I' => ⟨.int kvs.length, H, I', ⟨t, rfl⟩, q⟩
end
section
variable {κ : Type} [DecidableEq κ]
theorem valV_not {kvs : List (κ × V)} {k : κ} (h : valV kvs k = none) : ¬ k ∈ kvs.map (·.1) := by
 intro m
 obtain ⟨p, hp, e⟩ := List.mem_map.mp m
 have q : (kvs.any fun kv => decide (kv.1 = k)) = true := List.any_eq_true.mpr ⟨p, hp, decide_eq_true e⟩
 rw [valV_any, h] at q
 exact absurd q (by simp)
theorem valV_in {kvs : List (κ × V)} {k : κ} {v : V} (h : valV kvs k = some v) : k ∈ kvs.map (·.1) := by
 have q : (kvs.any fun kv => decide (kv.1 = k)) = true := by
   rw [valV_any, h]
   all_goals rfl
 obtain ⟨p, hp, e⟩ := List.any_eq_true.mp q
 exact List.mem_map.mpr ⟨p, hp, of_decide_eq_true e⟩
end
end L2
namespace L2
open PySem PySem.Spec PyProof.Rows PySem.Calls
section
variable {prog : Program} {w : World} {A : Around} {R : Result → Shared → Prop} {s : Shared}
theorem compLoop_go {elt target iter : Expr} {scope : Scope} {pos : Pos} {it acc : Value} {env : Env} (I : Nat → Shared → Prop)
   (turn : ∀ n s, I n s → wpAny (model prog w) A (pyNext it) (fun r s₁ => match r with
     | none => R (.ok .next) s₁
     | some v => wpAny (model prog w) A (letOwnedTupleGo target it v) (fun _ s₂ => wpAny (model prog w) A (assign target env v) (fun _ s₃ =>
         wpAny (model prog w) A (eval elt env) (fun x s₄ =>
           wpAny (model prog w) A (call (.builtin "list.append") [acc, x]) (fun _ s₅ => ∃ m, m < n ∧ I m s₅) (notedBy (model prog w) A env fun e s' => R (.error e) s') s₄)
           (notedBy (model prog w) A env fun e s' => R (.error e) s') s₃) (notedBy (model prog w) A env fun e s' => R (.error e) s') s₂) (notedBy (model prog w) A env fun e s' => R (.error e) s') s₁)
     (notedBy (model prog w) A env fun e s' => R (.error e) s') s)
   (n : Nat) (h : I n s) : codeAny (model prog w) A (.compLoop (.ListComp elt [⟨target, iter, [], 0⟩] scope pos) 0 it acc env) R s := by
 refine codeAny_loop rfl I (fun n s hI => ?_) n h
 show wpAny _ A ((compTurn (.ListComp elt [⟨target, iter, [], 0⟩] scope pos) 0 it acc env).onRaise (fun x => do noteFrame x env; theTreesLotGoes x)) _ _ s
 refine wpAny_noted ?_
 rw [compTurn_list1]
 refine wpAny_bind (wpAny_standAt (wpAny_bind (wpAny_mono (turn n s hI) (fun r s₁ h₁ => ?_) fun _ _ h' => h')))
 cases r with
 | none => exact wpAny_pure h₁
 | some v =>
   refine wpAny_bind (wpAny_mono h₁ (fun _ s₂ h₂ => wpAny_bind (wpAny_mono h₂ (fun _ s₃ h₃ => ?_) fun _ _ h' => h')) fun _ _ h' => h')
   exact wpAny_bind (wpAny_bind (wpAny_mono h₃ (fun x s₄ h₄ => wpAny_bind (wpAny_mono h₄ (fun _ s₅ h₅ => wpAny_pure (wpAny_pure ⟨rfl, h₅⟩)) fun _ _ h' => h')) fun _ _ h' => h'))
end
def clOf (env : Env) : List (Str × NameKind) → List (Str × Addr) → List (Str × Addr)
 | [], cs => cs
 | (n, k) :: r, cs => clOf env r (if k == .free then match env.cells.lookup n with | some c => (n, c) :: cs | none => cs else cs)
theorem clOf_mem {env : Env} : ∀ {ns : List (Str × NameKind)} {cs : List (Str × Addr)} {y : Str} {c : Addr}, (y, c) ∈ clOf env ns cs → (y, c) ∈ cs ∨ env.cells.lookup y = some c
 | [], _, _, _, h => .inl h
 | (n, k) :: r, cs, y, c, h => by
   unfold clOf at h
   rcases clOf_mem h with q | q
   · split at q
     · cases e : env.cells.lookup n with
       | none => rw [e] at q; exact .inl q
       | some d =>
         rw [e] at q
         rcases List.mem_cons.mp q with z | z
         · cases z; exact .inr e
         · exact .inl z
     · exact .inl q
   · exact .inr q
theorem clOf_has {env : Env} : ∀ {ns : List (Str × NameKind)} {cs : List (Str × Addr)} {y : Str}, ((∃ c, (y, c) ∈ cs) ∨ ((y, NameKind.free) ∈ ns ∧ ∃ c, env.cells.lookup y = some c)) → ∃ c, (y, c) ∈ clOf env ns cs
 | [], _, _, h => by
   rcases h with h | ⟨h, _⟩
   · exact h
   · cases h
 | (n, k) :: r, cs, y, h => by
   unfold clOf
   apply clOf_has
   rcases h with ⟨c, h⟩ | ⟨h, c, e⟩
   · left
     split
     · cases e : env.cells.lookup n with
       | none => exact ⟨c, h⟩
       | some d => exact ⟨c, List.mem_cons_of_mem _ h⟩
     · exact ⟨c, h⟩
   · rcases List.mem_cons.mp h with z | z
     · cases z
       left
       rw [e]
       exact ⟨c, by simp⟩
     · exact .inr ⟨z, c, e⟩
theorem closure_cl {env : Env} : ∀ {ns : List (Str × NameKind)} {cs : List (Str × Addr)}, (∀ y, (y, NameKind.free) ∈ ns → ∃ c, env.cells.lookup y = some c) →
   (forIn ns cs fun (x : Str × NameKind) (r : List (Str × Addr)) => (if x.2 == NameKind.free then (do let c ← cellOf env x.1; pure (ForInStep.yield ((x.1, c) :: r))) else pure (ForInStep.yield r) : Sem (ForInStep (List (Str × Addr))))) = (pure (clOf env ns cs) : Sem (List (Str × Addr)))
 | [], _, _ => rfl
 | (n, k) :: r, cs, h => by
   have ih := @closure_cl env r
   rw [List.forIn_cons]
   unfold clOf
   cases hk : k == NameKind.free with
   | false =>
     simp only [Bool.false_eq_true, if_false]
     exact ih fun y hy => h y (List.mem_cons_of_mem _ hy)
   | true =>
     have ek : k = NameKind.free := by simpa using hk
     subst ek
     obtain ⟨c, e⟩ := h n (by simp)
     have ec : cellOf env n = pure c := by unfold cellOf; rw [e]
     simp only [if_true]
     rw [ec, e]
     exact ih fun y hy => h y (List.mem_cons_of_mem _ hy)
theorem closure_eq {scope : Scope} {env : Env} (h : ∀ y, (y, NameKind.free) ∈ scope.names → ∃ c, env.cells.lookup y = some c) : closureFor scope env = pure (clOf env scope.names []) := by
 have q := closure_cl (cs := []) h
 unfold closureFor
 exact congrArg (fun m => m >>= fun r => pure r) q
end L2
namespace L2
open PySem PySem.Spec PyProof.Rows PySem.Calls
theorem xQ {env : Env} {y : Str} : ∀ {names : List (Str × NameKind)},
   (names.map fun (n, k) => if (k == NameKind.free && env.scope.kind == .function && env.kindOf n == some .cell) then (n, NameKind.cell) else (n, k)).lookup y
     = (names.lookup y).map fun k => if (k == NameKind.free && env.scope.kind == .function && env.kindOf y == some .cell) then NameKind.cell else k
 | [] => rfl
 | (n, k) :: r => by
   have ih := @xQ env y r
   by_cases hx : y = n
   · subst hx
     simp only [List.map_cons]
     split <;> rename_i hc
     · rw [List.lookup_cons, List.lookup_cons]; simp only [beq_self_eq_true, Option.map_some]; rw [if_pos hc]
     · rw [List.lookup_cons, List.lookup_cons]; simp only [beq_self_eq_true, Option.map_some]; rw [if_neg hc]
   · have hb : (y == n) = false := beq_eq_false_iff_ne.mpr hx
     simp only [List.map_cons]
     split <;> simp only [List.lookup_cons, hb] <;> exact ih
section
variable {X : Cx} {pins : List (Addr × Obj)} {σ : St} {H : Hp} {s : Shared} {a : Addr} {o : HO}
theorem Inv.track (I : Inv X pins σ H s) (f : FpOk X pins H a) (hs : X.s₀.heap.objs.size ≤ a) (new : ObjOk X.prog X.w (upd H a o) s.heap a o) : Inv X pins σ (upd H a o) s := by
 obtain ⟨f0, f1, f2, f3, f4, f5⟩ := f
 have old : ∀ b ob, X.s₀.heap.get? b = some ob → b ≠ a := fun b ob e z => by subst z; exact absurd (Nat.lt_of_lt_of_le (Heap.lt_size e) hs) (Nat.lt_irrefl _)
 refine ⟨I.ok, I.os, I.bare, ⟨I.base.keep, I.base.slot, fun b ob e n hx => ?_, I.base.there, fun b xs e => ?_, fun b ob u e => ?_, fun b ps e => ?_⟩, I.loc, I.cell, ?_, fun x c e => ?_, fun p hp => ?_, fun b u e => ?_, I.len⟩
 · rw [zK (old b ob e)]; exact I.base.free b ob e n hx
 · have q := I.base.tups b xs e; rw [zK (zI q f0)]; exact q
 · have q := I.base.frzs b ob u e; rw [zK (zI q f0)]; exact q
 · obtain ⟨more, q⟩ := I.base.tbls b ps e; exact ⟨more, by rw [zK (zI q f0)]; exact q⟩
 · rw [zK (Ne.symm f1)]; exact I.free
 · rw [zK (f4 x c e)]; exact I.freeC x c e
 · obtain ⟨e, n, ne, nf, d⟩ := I.pin p hp
   exact ⟨e, by rw [zK (f5 p hp)]; exact n, ne, nf, d⟩
 · by_cases hb : b = a
   · subst hb; rw [zB] at e; cases e; exact new
   · rw [zK hb] at e
     exact (I.hok b u e).stay (fun c v _ q => q) (fun c q => by rw [zK (zI q f0)]; exact q) fun c xs q => by rw [zK (zI q f0)]; exact q
end
def compCx (X : Cx) (scope : Scope) (C : Addr) (x : Str) (M : List Str) (s₂ : Shared) (H₂ : Hp) (fp : List Addr) : Cx :=
 { X with N := x :: M, s₀ := s₂, H₀ := H₂, env := compEnvC scope (clOf X.env scope.names []) C X.env, outer := X.stack, ex := fp, fn := fun _ => false, pn := [], xe := fun _ _ => False }
structure CompOk (X : Cx) (scope : Scope) (x : Str) (M : List Str) : Prop where
 kind : scope.kind = .function
 cell : ∀ y ∈ scope.names, y.2 ≠ .cell
 names : ∀ y ∈ scope.names, y.2 = .local → scope.names.lookup y.1 = some .local
 loc : scope.names.lookup x = some .local
 nd : (x :: M).Nodup
 free : ∀ y, (y, NameKind.free) ∈ scope.names → X.env.scope.names.lookup y = some .cell ∨ X.env.scope.names.lookup y = some .free
 len : M.length = X.N.length
 sub : ∀ (j : Nat) y, M[j]? = some y → scope.names.lookup y = some .local ∨ scope.names.lookup y = some .free → X.N[j]? = some y ∧ scope.names.lookup y = some .free
def compOkB (names outer : List (Str × NameKind)) (N M : List Str) (x : Str) : Bool :=
 names.all (fun y => decide (y.2 ≠ .cell)) && names.all (fun y => decide (y.2 = .local → names.lookup y.1 = some .local)) && decide (names.lookup x = some .local) && decide (x :: M).Nodup &&
 names.all (fun y => decide (y.2 = .free → (outer.lookup y.1 = some .cell ∨ outer.lookup y.1 = some .free))) && decide (M.length = N.length) &&
 (M.zip N).all (fun p => decide (names.lookup p.1 = some .local ∨ names.lookup p.1 = some .free → p.1 = p.2 ∧ names.lookup p.1 = some .free))
theorem xF {X : Cx} {scope : Scope} {x : Str} {M : List Str} (hk : scope.kind = .function) (h : compOkB scope.names X.env.scope.names X.N M x = true) : CompOk X scope x M := by
 unfold compOkB at h
 simp only [Bool.and_eq_true, List.all_eq_true, decide_eq_true_eq] at h
 obtain ⟨⟨⟨⟨⟨⟨h1, h2⟩, h3⟩, h4⟩, h5⟩, h6⟩, h7⟩ := h
 refine ⟨hk, h1, h2, h3, h4, fun y hy => h5 _ hy rfl, h6, fun j y e q => ?_⟩
 have hj : j < M.length := (List.getElem?_eq_some_iff.mp e).1
 have hj2 : j < X.N.length := by omega
 have z : (M.zip X.N)[j]? = some (y, X.N[j]) := by rw [List.getElem?_zip_eq_some]; exact ⟨e, by simp [hj2]⟩
 have r := h7 _ (List.mem_of_getElem? z) q
 exact ⟨by rw [List.getElem?_eq_getElem hj2]; exact congrArg some r.1.symm, r.2⟩
section
variable {X : Cx} {scope : Scope} {x : Str} {M : List Str} {pins : List (Addr × Obj)} {σ : St} {H₂ : Hp} {s₂ : Shared}
theorem CompOk.cl_of {y : Str} {c : Addr} (h : (clOf X.env scope.names []).lookup y = some c) : X.env.cells.lookup y = some c := by
 rcases clOf_mem (PySem.mem_of_lookup h) with q | q
 · cases q
 · exact q
theorem CompOk.cl_has (K : CompOk X scope x M) (ok : X.Ok) {y : Str} (h : (y, NameKind.free) ∈ scope.names) : ∃ c, (clOf X.env scope.names []).lookup y = some c ∧ X.env.cells.lookup y = some c := by
 have e1 : ∃ c, X.env.cells.lookup y = some c := ok.has y (K.free y h)
 obtain ⟨c, hc⟩ := clOf_has (env := X.env) (ns := scope.names) (cs := []) (y := y) (.inr ⟨h, e1⟩)
 have q : ∃ c, (clOf X.env scope.names []).lookup y = some c := by
   cases e : (clOf X.env scope.names []).lookup y with
   | some c => exact ⟨c, rfl⟩
   | none =>
     rw [List.lookup_eq_none_iff] at e
     have := e _ hc
     simp at this
 obtain ⟨c', hc'⟩ := q
 exact ⟨c', hc', CompOk.cl_of hc'⟩
theorem CompOk.closure (K : CompOk X scope x M) (ok : X.Ok) : closureFor scope X.env = pure (clOf X.env scope.names []) :=
 closure_eq fun y hy => by obtain ⟨c, _, q⟩ := K.cl_has ok hy; exact ⟨c, q⟩
theorem inv_comp (K : CompOk X scope x M) (I : Inv X pins σ H₂ s₂) {fp : List Addr} (hf : ∀ b ∈ fp, FpOk X pins H₂ b) (hfl : ∀ b ∈ fp, b < s₂.heap.objs.size) {C : Addr} (hC : s₂.heap.objs.size ≤ C) {h₁ : Heap} {t : Nat} {m : Str → Option Value} (hn : h₁.Ns C m)
   (hk : ∀ b o, s₂.heap.get? b = some o → h₁.get? b = some o) : Inv (compCx X scope C x M s₂ H₂ fp) [] (none :: σ) H₂ { s₂ with heap := h₁, toks := t } := by
 have lt : ∀ {b : Addr} {o : Obj}, s₂.heap.get? b = some o → b ≠ C := fun {b o} e z => by subst z; exact absurd (Nat.lt_of_lt_of_le (Heap.lt_size e) hC) (Nat.lt_irrefl _)
 have cC : ∀ y c, (clOf X.env scope.names []).lookup y = some c → c ≠ C := fun y c e => by
   obtain ⟨v, o, ho, _⟩ := I.cell y c (CompOk.cl_of e)
   exact lt ho
 have sub : ∀ b ∈ frs X.stack, b = X.env.locals ∨ b ∈ X.fs := fun b hb => List.mem_cons.mp (I.stkSub b hb)
 have ok : (compCx X scope C x M s₂ H₂ fp).Ok := by
   refine ⟨I.ok.mod, K.kind, I.ok.glob, I.ok.blt, hC, fun y z c h1 h2 => ?_, fun y hy => ?_, fun y c z => ?_, I.ok.hd, I.ok.frames, .inl rfl, fun b hb => ⟨?_, fun y c e => ?_⟩, I.bs, Nat.le_trans I.ok.bsz I.sz, fun b o e hb => ?_, fun b hb hb2 => ?_, I.stack, I.stkFree⟩
   · exact I.ok.inj y z c (CompOk.cl_of h1) (CompOk.cl_of h2)
   · have hy' : (relabel scope X.env).names.lookup y = some .cell ∨ (relabel scope X.env).names.lookup y = some .free := hy
     have q : (y, NameKind.free) ∈ scope.names := by
       unfold relabel at hy'
       rw [xQ] at hy'
       cases e : scope.names.lookup y with
       | none => rw [e] at hy'; simp at hy'
       | some k =>
         have hm := PySem.mem_of_lookup e
         cases k with
         | free => exact hm
         | cell => exact absurd rfl (K.cell _ hm)
         | _ => rw [e] at hy'; simp at hy'
     obtain ⟨c, q, _⟩ := K.cl_has I.ok q
     exact ⟨c, q⟩
   · exact Bool.noConfusion (show false = true from z)
   · intro z
     have z' : b = C := z
     subst z'
     exact absurd (Nat.lt_of_lt_of_le (hfl b hb) hC) (Nat.lt_irrefl _)
   · exact (hf b hb).2.2.2.2.1 y c (CompOk.cl_of e)
   · have q := (hf b hb).2.2.2.1
     rcases q with q | q
     · exact I.ok.noex b o e q
     · exact absurd (Nat.lt_of_lt_of_le (Heap.lt_size (I.ok.bs b o e).1) q) (Nat.lt_irrefl _)
   · rcases sub b hb2 with z | z
     · exact (hf b hb).2.1 z
     · exact (hf b hb).2.2.1 z
 refine ⟨ok, rfl, I.bare, Un.kept hk, ⟨m, hn, fun i y v e1 e2 e3 => ?_⟩, fun y c e => ?_, ?_, fun y c e => ?_, fun p hp => absurd (show p ∈ ([] : List (Addr × Obj)) from hp) (by simp), I.hok.kept hk, ?_⟩
 · cases i with
   | zero =>
     have e2' : some (none : Option V) = some (some v) := e2
     cases e2'
   | succ j =>
     have e1' : M[j]? = some y := e1
     have e2' : σ[j]? = some (some v) := e2
     have e3' : (relabel scope X.env).names.lookup y = some .local ∨ (relabel scope X.env).names.lookup y = some .cell ∨ (relabel scope X.env).names.lookup y = some .free := e3
     have q : scope.names.lookup y = some .local ∨ scope.names.lookup y = some .free := by
       unfold relabel at e3'
       rw [xQ] at e3'
       cases e : scope.names.lookup y with
       | none => rw [e] at e3'; simp at e3'
       | some k =>
         have hm := PySem.mem_of_lookup e
         cases k with
         | free => exact .inr rfl
         | «local» => exact .inl rfl
         | cell => exact absurd rfl (K.cell _ hm)
         | _ => rw [e] at e3'; simp at e3'
     obtain ⟨nj, fr⟩ := K.sub j y e1' q
     have hm := PySem.mem_of_lookup fr
     have kd := K.free y hm
     have vs : Vis X.env.scope y := .inr kd
     obtain ⟨mo, _, lo⟩ := I.loc
     obtain ⟨u, r, l⟩ := lo j y v nj e2' vs
     refine ⟨u, r, .inr ⟨?_, ?_⟩⟩
     · show (relabel scope X.env).names.lookup y = some .cell ∨ (relabel scope X.env).names.lookup y = some .free
       unfold relabel
       rw [xQ, fr]
       simp only [Option.map_some]
       split
       · exact .inl rfl
       · exact .inr rfl
     · obtain ⟨c, q1, q2⟩ := K.cl_has I.ok hm
       rcases l with ⟨k, _⟩ | ⟨_, c', q3, z⟩
       · have k' : X.env.scope.names.lookup y = some .local := k
         rcases kd with kd | kd <;> · rw [k'] at kd; cases kd
       · rw [q2] at q3
         cases q3
         obtain ⟨oc, ho, hd⟩ := z
         exact ⟨c, q1, oc, hk _ _ ho, hd⟩
 · obtain ⟨v, oc, ho, hd⟩ := I.cell y c (CompOk.cl_of e)
   exact ⟨v, oc, hk _ _ ho, hd⟩
 · exact I.hok.fresh hC
 · exact I.freeC y c (CompOk.cl_of e)
 · show (none :: σ).length = (x :: M).length
   rw [List.length_cons, List.length_cons, K.len, I.len]
end
end L2
namespace L2
open PySem PySem.Spec PyProof.Rows PySem.Calls
def tComp (wi : TI) (te : TE) : TE := fun σ H Q => wi σ H fun J H1 => ∃ (n : Nat) (W : Nat → List V → Hp → Prop), n ≤ sizeLine ∧ W 0 [] H1 ∧ ∀ i ys H, i ≤ n → ys.length = i → W i ys H →
 (J.stop i H ∧ ∀ p, H p = none → Q (.ref p) (upd H p (.lst ys))) ∨ (J.go i H ∧ i < n ∧ ∀ x H', J.yld i H x H' → te (some x :: σ) H' fun v H'' => W (i + 1) (ys ++ [v]) H'')
section
variable {X : Cx} {scope : Scope} {x : Str} {M : List Str} {pins : List (Addr × Obj)} {σ : St} {H₂ : Hp} {s₂ : Shared} {elt iter : Expr} {px pos : Pos} {te : TE} {wi : TI}
theorem comp_block (K : CompOk X scope x M) (hc : X.calm = true) (I : Inv X pins σ H₂ s₂) (he : ∀ (C : Addr) (s₂ : Shared) (H₂ : Hp) (fp : List Addr), PE (compCx X scope C x M s₂ H₂ fp) elt te)
   {it : Addr} {fp : List Addr} {tn : Nat → Heap → Prop} {J : It} (T : Turn X.prog X.w X.K (.Name x px) J fp it tn) (st : tn 0 s₂.heap) (hf : ∀ b ∈ fp, FpOk X pins H₂ b) {n : Nat} (hsz : n ≤ sizeLine) {W : Nat → List V → Hp → Prop} {F : List V → Hp → Prop}
   (w0 : W 0 [] H₂) (turn : ∀ i ys H, i ≤ n → ys.length = i → W i ys H → (J.stop i H ∧ F ys H) ∨ (J.go i H ∧ i < n ∧ ∀ x H', J.yld i H x H' → te (some x :: σ) H' fun v H'' => W (i + 1) (ys ++ [v]) H''))
   {E : Value → Shared → Prop} {RR : Value → Addr → Result → Shared → Prop}
   (hRR : ∀ (D C : Addr) (s' : Shared) (H' : Hp) (ys : List V) (m : Str → Option Value), Inv X pins σ (upd H' D (.lst ys)) s' → H' D = none → FpOk X pins (upd H' D (.lst ys)) C → s'.heap.Ns C m → F ys H' → RR (.ref D) C (.ok .next) s') :
   wpAny (model X.prog X.w) X.A (newList []) (fun acc s₃ => wpAny (model X.prog X.w) X.A (newFunctionEnv scope X.env.globals (clOf X.env scope.names []) [] X.env.qual none .none (some X.env)) (fun cenv s₄ =>
     codeAny (model X.prog X.w) X.A (.compStart (.ListComp elt [⟨.Name x px, iter, [], 0⟩] scope pos) 0 (.ref it) acc { cenv with scope := relabel scope X.env }) (RR acc cenv.locals) s₄) E s₃) E s₂ := by
 refine wpAny_newObj_type (wpAny_newFunctionEnv K.cell (by intro y hy; simp at hy) (fun h₁ hns₁ hsb₁ => ?_) K.kind)
 dsimp only at hns₁ hsb₁ ⊢
 generalize hH2 : s₂.heap.push { cls := .type "list", dict := none, data := .seq ([] : List Value).toArray } = H2 at hns₁ hsb₁ ⊢
 have hC : H2.objs.size = s₂.heap.objs.size + 1 := by rw [← hH2, Heap.size_push]
 have hDC : s₂.heap.objs.size ≠ H2.objs.size := by rw [hC]; exact Nat.ne_of_lt (Nat.lt_succ_self _)
 have below : ∀ b, b < s₂.heap.objs.size → b ≠ H2.objs.size ∧ b ≠ s₂.heap.objs.size := fun b hb => ⟨by rw [hC]; exact Nat.ne_of_lt (Nat.lt_succ_of_lt hb), Nat.ne_of_lt hb⟩
 have hfl : ∀ b ∈ fp, b < s₂.heap.objs.size := fun b hb => by obtain ⟨o, e, _⟩ := T.obj _ _ st b hb; exact Heap.lt_size e
 have old : ∀ b o, s₂.heap.get? b = some o → h₁.get? b = some o := fun b o e => hsb₁.extBut b o (below b (Heap.lt_size e)).1 (Heap.get?_push_of_some _ (hH2 ▸ Heap.get?_push_of_some _ e))
 have hacc : h₁.get? s₂.heap.objs.size = some { cls := .type "list", data := .seq ([] : List Value).toArray 0 } := hsb₁.extBut _ _ hDC (Heap.get?_push_of_some _ (hH2 ▸ Heap.get?_push_size _ rfl))
 generalize hCC : H2.objs.size = C at *
 generalize hDD : s₂.heap.objs.size = D at *
 have hCle : s₂.heap.objs.size ≤ C := by rw [hDD, hC]; exact Nat.le_succ _
 have st₁ : tn 0 h₁ := T.keep _ _ _ st fun b _ o e => old b o e
 have I₁ := inv_comp (t := s₂.toks + ([] : List (Str × Value)).length) K I hf (fun b hb => by rw [hDD]; exact hfl b hb) hCle hns₁ old
 generalize hX' : compCx X scope C x M s₂ H₂ fp = X' at I₁
 have eX : X'.prog = X.prog ∧ X'.w = X.w ∧ X'.K = X.K ∧ X'.calm = true ∧ X'.A = X.A ∧ X'.ex = fp ∧ X'.env = compEnvC scope (clOf X.env scope.names []) C X.env ∧ X'.s₀ = s₂ ∧ X'.pn = [] := by
   subst hX'; exact ⟨rfl, rfl, rfl, hc, rfl, rfl, rfl, rfl, rfl⟩
 obtain ⟨eP, ew, eK, ec, eA, eex, eenv, es0, epn⟩ := eX
 have eL : X'.env.locals = C := by rw [eenv]; rfl
 have cells' : ∀ y c, X'.env.cells.lookup y = some c → X.env.cells.lookup y = some c := fun y c e => by rw [eenv] at e; exact CompOk.cl_of e
 have efs : X'.fs = frs X.stack := by subst hX'; rfl
 have fsub : ∀ b ∈ X'.fs, b = X.env.locals ∨ b ∈ X.fs := fun b hb => List.mem_cons.mp (I.stkSub b (by rw [← efs]; exact hb))
 have fpok : ∀ {pn : List (Addr × Obj)} {H' : Hp}, (∀ p ∈ pn, p.1 = D) → (∀ b ∈ fp, H' b = none) → ∀ b ∈ fp, FpOk X' pn H' b := fun {pn H'} hp hn b hb => by
   refine ⟨hn b hb, ?_, fun z => ?_, .inl (by rw [eex]; exact hb), fun y c e => (hf b hb).2.2.2.2.1 y c (cells' y c e), fun p hq => ?_⟩
   · rw [eL]; exact (below b (hfl b hb)).1
   · rcases fsub b z with q | q
     · exact (hf b hb).2.1 q
     · exact (hf b hb).2.2.1 q
   · rw [epn, List.nil_append] at hq
     rw [hp p hq]; exact Ne.symm (below b (hfl b hb)).2
 have Dfp : D ∉ fp := fun z => Nat.lt_irrefl _ (hfl D z)
 have ltL : X.env.locals < D := by have := I.lt; rw [hDD] at this; exact this
 have ltF : ∀ b ∈ X.fs, b < D := fun b hb => Nat.lt_of_not_le fun z => I.nofs (a := b) (by rw [hDD]; exact z) hb
 have newok : ∀ {b : Addr} {pn : List (Addr × Obj)} {H' : Hp}, D ≤ b → b ≠ C → H' b = none → (∀ p ∈ pn, p.1 ≠ b) → FpOk X' pn H' b := fun {b pn H'} hb hbC hn hp => by
   refine ⟨hn, by rw [eL]; exact hbC, fun z => ?_, .inr (by rw [es0, hDD]; exact hb), fun y c e => ?_, fun p hq => ?_⟩
   · rcases fsub b z with q | q
     · rw [q] at hb; exact absurd (Nat.lt_of_lt_of_le ltL hb) (Nat.lt_irrefl _)
     · exact absurd (Nat.lt_of_lt_of_le (ltF b q) hb) (Nat.lt_irrefl _)
   · obtain ⟨v, o, ho, _⟩ := I.cell y c (cells' y c e)
     have := Heap.lt_size ho
     rw [hDD] at this
     exact Nat.ne_of_lt (Nat.lt_of_lt_of_le this hb)
   · rw [epn, List.nil_append] at hq
     exact hp p hq
 have outer : ∀ {σ' : St} {H' : Hp} {s' : Shared} {pn : List (Addr × Obj)}, Inv X' pn σ' H' s' → Inv X pins σ H' s' := fun {σ' H' s' pn} J' => by
   subst hX'
   refine I.call' (ch := fp) J'.os J'.base J'.hok J'.bare fun b hb => ?_
   obtain ⟨f0, f1, f2, f3, f4, f5⟩ := hf b hb
   exact ⟨f3, f1, f4, f5⟩
 have outok : ∀ {b : Addr} {H' : Hp}, D ≤ b → H' b = none → FpOk X pins H' b := fun {b H'} hb hn => by
   have q := I.fpOk (H' := H') (b := b) (by rw [hDD]; exact hb) hn
   exact q
 have loop : ∀ s₃ : Shared, s₃ = { s₂ with heap := h₁, toks := s₂.toks + ([] : List (Str × Value)).length } →
     codeAny (model X.prog X.w) X.A (.compLoop (.ListComp elt [⟨.Name x px, iter, [], 0⟩] scope pos) 0 (.ref it) (.ref D) (compEnvC scope (clOf X.env scope.names []) C X.env)) (RR (.ref D) C) s₃ := by
   rintro s₃ rfl
   refine compLoop_go (fun k s' => ∃ (i : Nat) (ys : List V) (its : List Value) (σ0 : Option V) (H' : Hp), i ≤ n ∧ k = n + 1 - i ∧ ys.length = i ∧ Inv X' [] (σ0 :: σ) H' s' ∧ tn i s'.heap ∧ (∀ b ∈ fp, H' b = none) ∧ H' D = none ∧ Vals ys its ∧
     (∃ c, s'.heap.get? D = some { cls := .type "list", data := .seq its.toArray c }) ∧ W i ys H') ?_ (n + 1) ⟨0, [], [], none, H₂, Nat.zero_le _, rfl, rfl, I₁, st₁, fun b hb => (hf b hb).1, by rw [← hDD]; exact I.hok.fresh (Nat.le_refl _), .nil, ⟨0, hacc⟩, w0⟩
   rintro k s' ⟨i, ys, its, σ0, H', hi, rfl, hyl, I', st', fr', hD', rv, ⟨c, hobj⟩, w'⟩
   have hx0 : X'.N[0]? = some x := by subst hX'; rfl
   have hxl : X'.env.scope.names.lookup x = some .local := by rw [eenv]; exact lookup_relabel_local K.loc
   have hNd : X'.N.Nodup := by subst hX'; exact K.nd
   rcases turn i ys H' hi hyl w' with ⟨stop, fin⟩ | ⟨go, hlt, step⟩
   · have pinD : Inv X' [(D, { cls := .type "list", data := .seq its.toArray c })] (σ0 :: σ) H' s' := I'.pins_of fun p hp => by
       obtain rfl : p = (D, { cls := .type "list", data := .seq its.toArray c }) := by simpa using hp
       refine ⟨hobj, hD', ?_, ?_, fun v z => nomatch z⟩
       · rw [eL]; exact hDC
       · intro z
         rcases fsub D z with q | q
         · rw [q] at ltL; exact Nat.lt_irrefl _ ltL
         · exact Nat.lt_irrefl _ (ltF D q)
     have q := T.done X' eP ew eK ec i _ s' (σ0 :: σ) H' (notedBy (model X.prog X.w) X.A (compEnvC scope (clOf X.env scope.names []) C X.env) fun e s' => RR (.ref D) C (.error e) s') pinD (fpok (fun p hp => by obtain rfl : p = (D, { cls := .type "list", data := .seq its.toArray c }) := (by simpa using hp); rfl) fr') st' stop
     rw [eA] at q
     refine wpAny_mono q (fun r s4 ⟨hr, I4⟩ => ?_) fun _ _ z => z
     subst hr
     obtain ⟨e4, n4, _⟩ := I4.pin (D, { cls := .type "list", data := .seq its.toArray c }) (List.mem_append_right _ (by simp))
     have O4 := outer I4
     obtain ⟨m4, ns4, _⟩ := I4.loc
     rw [eL] at ns4
     refine hRR D C s4 H' ys m4 (O4.track (outok (Nat.le_refl _) n4) (Nat.le_trans I.sz (by rw [hDD]; exact Nat.le_refl _)) ⟨by rw [hyl]; exact Nat.le_trans hi hsz, its, c, rv, e4⟩) n4 (outok (by rw [hC]; exact Nat.le_succ _) ?_) ns4 fin
     rw [zK (Ne.symm hDC)]
     have := I4.free
     rw [eL] at this
     exact this
   · have pinD : Inv X' [(D, { cls := .type "list", data := .seq its.toArray c })] (σ0 :: σ) H' s' := I'.pins_of fun p hp => by
       obtain rfl : p = (D, { cls := .type "list", data := .seq its.toArray c }) := by simpa using hp
       refine ⟨hobj, hD', ?_, ?_, fun v z => nomatch z⟩
       · rw [eL]; exact hDC
       · intro z
         rcases fsub D z with q | q
         · rw [q] at ltL; exact Nat.lt_irrefl _ ltL
         · exact Nat.lt_irrefl _ (ltF D q)
     have pd : ∀ p ∈ [(D, ({ cls := .type "list", data := .seq its.toArray c } : Obj))], p.1 = D := fun p hp => by obtain rfl : p = (D, { cls := .type "list", data := .seq its.toArray c }) := (by simpa using hp); rfl
     have q := T.item X' eP ew eK ec i _ s' (σ0 :: σ) H' (notedBy (model X.prog X.w) X.A (compEnvC scope (clOf X.env scope.names []) C X.env) fun e s' => RR (.ref D) C (.error e) s') pinD (fpok pd fr') st' go
     rw [eA] at q
     refine wpAny_mono q (fun r s4 ⟨u, hr, h4⟩ => ?_) fun _ _ z => z
     subst hr
     refine wpAny_mono h4 (fun _ s5 ⟨xv, H5, I5, r5, y5, st5, fr5⟩ => ?_) fun _ _ z => z
     have I5' := I5.pinned (fpok pd fr5) (T.obj _ _ st5)
     refine wpAny_assign_Name ?_
     rw [← eenv]
     refine store_ok I5' hNd hx0 (.inl hxl) r5 (fun s6 I6 => ?_) (.inr hxl)
     have te6 := step xv H5 y5
     have q6 := (he C s₂ H₂ fp) (([(D, ({ cls := .type "list", data := .seq its.toArray c } : Obj))]) ++ pinsAt fp s5.heap) s6 (some xv :: σ) H5 (fun v H'' => W (i + 1) (ys ++ [v]) H'') (by rw [hX']; exact I6) te6
     rw [hX', eP, ew, eA] at q6
     refine wpAny_mono q6 (fun u7 s7 ⟨v7, H7, I7, r7, w7⟩ => ?_) (fun _ _ z => by subst hX'; exact (show False from z).elim)
     obtain ⟨e7, n7, _⟩ := I7.pin (D, { cls := .type "list", data := .seq its.toArray c }) (List.mem_append_right _ (List.mem_append_left _ (by simp)))
     refine append_at (hsz := by rw [List.size_toArray, ← rv.length, hyl]; exact Nat.le_trans hi hsz) e7 fun h8 sb8 g8 => ?_
     have I8 : Inv X' [] (some xv :: σ) H7 { s7 with heap := h8, toks := s7.toks } := (I7.pins_of (pins' := []) fun p hp => absurd hp (by simp)).turned (t' := s7.toks) (it := D) (fun b o hb e => (sb8.2 b hb).trans e) n7 (by rw [eL]; exact hDC) (.inr (by rw [es0, hDD]; exact Nat.le_refl _))
       (newok (H' := H7) (pn := []) (Nat.le_refl _) hDC n7 (fun p hp => absurd hp (by simp))).2.2.2.2.1 (fun p hp => by rw [epn] at hp; exact absurd hp (by simp))
     refine ⟨n + 1 - (i + 1), by omega, i + 1, ys ++ [v7], its ++ [u7], some xv, H7, hlt, rfl, by rw [List.length_append, List.length_singleton, hyl], I8, ?_, fun b hb => ?_, n7, rv.append (.cons r7 .nil), ⟨c + 1, ?_⟩, w7⟩
     · refine T.keep _ _ _ st5 fun b hb o e => ?_
       have e' := (I7.pin (b, o) (List.mem_append_right _ (List.mem_append_right _ (xD hb e)))).1
       exact (sb8.2 b (fun z => Dfp (z ▸ hb))).trans e'
     · obtain ⟨o, e, d⟩ := T.obj _ _ st5 b hb
       exact (I7.pin (b, o) (List.mem_append_right _ (List.mem_append_right _ (xD hb e)))).2.1
     · rw [g8, List.push_toArray]
 exact codeAny_compStart_list (loop _ rfl) (T.self X.A 0 _ _ _ st₁ (loop _ rfl))
theorem pe_comp (K : CompOk X scope x M) (hc : X.calm = true) (hi : PI X (.Name x px) iter wi) (he : ∀ (C : Addr) (s₂ : Shared) (H₂ : Hp) (fp : List Addr), PE (compCx X scope C x M s₂ H₂ fp) elt te)
   (hs : ∀ x, foldedSetIterable iter X.env x = pure x := by intro _; rfl) : PE X (.ListComp elt [⟨.Name x px, iter, [], 0⟩] scope pos) (tComp wi te) := by
 intro pins s σ H Q I h
 rw [eval_ListComp]
 refine wpAny_comprehension_free (use := none) rfl hs (K.closure I.ok) K.kind K.names (thn (hi pins s σ H _ I h) fun v s1 h1 => thn h1 fun itv s2 h2 => ?_)
 obtain ⟨it, fp, tn, J, H2, e, I2, T, st2, f2, n, W, hsz, w0, turn⟩ := h2
 subst e
 refine comp_block (RR := fun acc C => compPost (model X.prog X.w) X.A X.xe none (EP X pins σ Q) acc C) K hc I2 he T st2 f2 hsz (F := fun ys H => ∀ p, H p = none → Q (.ref p) (upd H p (.lst ys))) w0 turn ?_
 intro D C s' H' ys m I' n' fC ns fin
 refine ⟨m, ns, fun h' sb => ?_⟩
 obtain ⟨f0, f1, f2, f3, f4, f5⟩ := fC
 exact ⟨.ref D, _, I'.turned (t' := s'.toks) (it := C) (fun b o hb e => (sb.2 b hb).trans e) f0 f1 f3 f4 f5, rfl, fin D n'⟩
theorem ps_comp {i : Nat} {y : Str} {spos py : Pos} (hN : X.N.Nodup) (hy : X.N[i]? = some y) (hl : Loc X.env.scope y) (K : CompOk X scope x M) (hc : X.calm = true) (hi : PI X (.Name x px) iter wi) (he : ∀ (C : Addr) (s₂ : Shared) (H₂ : Hp) (fp : List Addr), PE (compCx X scope C x M s₂ H₂ fp) elt te)
   (hsw : swapsWith (.ListComp elt [⟨.Name x px, iter, [], 0⟩] scope pos) (some (.Name y py)) spos.line X.env = pure true := by rfl)
   (hs : ∀ x, foldedSetIterable iter X.env x = pure x := by intro _; rfl) (hf : X.fn y = true ∨ X.env.scope.names.lookup y = some .local := by first | exact .inl rfl | exact .inr rfl | assumption) :
   PS X (.Assign [.Name y py] (.ListComp elt [⟨.Name x px, iter, [], 0⟩] scope pos) spos) (tAsg (tComp wi te) (gName i)) := by
 intro pins s σ H Dn I h
 rw [exec_Assign_Name_used _ _ _ _ hsw]
 refine wpAny_bind (wpAny_standAt (wpAny_bind ?_))
 show wpAny _ X.A (do let _ ← comprehension (.ListComp elt [⟨.Name x px, iter, [], 0⟩] scope pos) scope X.env _ (newList []) false (eval iter X.env) (some (assign (.Name y py) X.env))) _ _ s
 refine wpAny_bind (thn (wpAny_comprehension_free (use := some (assign (.Name y py) X.env)) (Q := fun _ s' => SP X pins Dn .next s') rfl hs (K.closure I.ok) K.kind K.names (thn (hi pins s σ H _ I h) fun v s1 h1 => thn h1 fun itv s2 h2 => ?_)) fun _ s' hq => wpAny_pure (wpAny_pure hq))
 obtain ⟨it, fp, tn, J, H2, e, I2, T, st2, f2, n, W, hsz, w0, turn⟩ := h2
 subst e
 refine comp_block (RR := fun acc C => compPost (model X.prog X.w) X.A X.xe (some (assign (.Name y py) X.env)) (fun _ s' => SP X pins Dn .next s') acc C) K hc I2 he T st2 f2 hsz (F := fun ys H => ∀ p, H p = none → Dn.nx (σ.set i (some (.ref p))) (upd H p (.lst ys))) w0 turn ?_
 intro D C s' H' ys m I' n' fC ns fin
 refine wpAny_assign_Name (store_ok2 (v := .ref D) I' hN hy hl rfl (fun s'' I'' ch => ?_) hf)
 obtain ⟨f0, f1, f2, f3, f4, f5⟩ := fC
 obtain ⟨a, sb1, ha⟩ := ch
 have hCa : C ≠ a := by
   rcases ha with z | z
   · rw [z]; exact f1
   · exact Ne.symm (f4 y a z)
 refine ⟨m, ns.sameBut sb1 hCa, fun h' sb => ?_⟩
 exact ⟨_, _, I''.turned (t' := s''.toks) (it := C) (fun b o hb e => (sb.2 b hb).trans e) f0 f1 f3 f4 f5, fin D n'⟩
end
end L2
namespace L2
open PySem PySem.Spec PyProof.Rows PySem.Calls
def S (l : List Nat) : Str := ⟨l.toArray⟩
abbrev cd (x : Str) : List Nat := x.cps.toList
theorem cd_S (l : List Nat) : cd (S l) = l := rfl
theorem S_cd (x : Str) : S (cd x) = x := by cases x; rfl
theorem len_S (l : List Nat) : (S l).length = l.length := by show l.toArray.size = _; simp
theorem len_cd (x : Str) : x.length = (cd x).length := by show x.cps.size = _; simp
theorem S_app (a b : List Nat) : S a ++ S b = S (a ++ b) := by
 show (⟨a.toArray ++ b.toArray⟩ : Str) = ⟨(a ++ b).toArray⟩
 simp
theorem cd_app (x y : Str) : cd (x ++ y) = cd x ++ cd y := by
 show (x.cps ++ y.cps).toList = _
 simp
section
variable {X : Cx} {tg : Expr}
end
theorem comp_range {lo : Int} {n : Nat} {te : TE} {σ : St} {H : Hp} {Q : VK} (hz : n ≤ sizeLine) (W : Nat → List V → Hp → Prop) (h0 : W 0 [] H)
   (hs : ∀ i ys H, i < n → ys.length = i → W i ys H → te (some (.int (lo + i)) :: σ) H fun v H' => W (i + 1) (ys ++ [v]) H')
   (hd : ∀ ys H, ys.length = n → W n ys H → ∀ p, H p = none → Q (.ref p) (upd H p (.lst ys))) :
   ∃ (m : Nat) (W : Nat → List V → Hp → Prop), m ≤ sizeLine ∧ W 0 [] H ∧ ∀ i ys H, i ≤ m → ys.length = i → W i ys H →
     ((Itr lo n).stop i H ∧ ∀ p, H p = none → Q (.ref p) (upd H p (.lst ys))) ∨ ((Itr lo n).go i H ∧ i < m ∧ ∀ v H', (Itr lo n).yld i H v H' → te (some v :: σ) H' fun v H'' => W (i + 1) (ys ++ [v]) H'') := by
 refine ⟨n, W, hz, h0, fun i ys H hi hl hw => ?_⟩
 by_cases hlt : i < n
 · refine .inr ⟨hlt, hlt, fun v H' y => ?_⟩
   obtain ⟨e, y⟩ := y
   subst e y
   exact hs i ys _ hlt hl hw
 · have e : i = n := by omega
   subst e
   exact .inl ⟨Nat.le_refl _, hd ys H hl hw⟩
theorem comp_list {K : PySem.W.Frag} {a : Addr} {xs : List V} {te : TE} {σ : St} {H : Hp} {Q : VK} (hz : xs.length ≤ sizeLine) (W : Nat → List V → Hp → Prop) (h0 : W 0 [] H) (hq : ∀ i ys H, W i ys H → SqL K H a xs)
   (hs : ∀ i x ys H, xs[i]? = some x → ys.length = i → W i ys H → te (some x :: σ) H fun v H' => W (i + 1) (ys ++ [v]) H')
   (hd : ∀ ys H, ys.length = xs.length → W xs.length ys H → ∀ p, H p = none → Q (.ref p) (upd H p (.lst ys))) :
   ∃ (m : Nat) (W : Nat → List V → Hp → Prop), m ≤ sizeLine ∧ W 0 [] H ∧ ∀ i ys H, i ≤ m → ys.length = i → W i ys H →
     ((Itl K a).stop i H ∧ ∀ p, H p = none → Q (.ref p) (upd H p (.lst ys))) ∨ ((Itl K a).go i H ∧ i < m ∧ ∀ v H', (Itl K a).yld i H v H' → te (some v :: σ) H' fun v H'' => W (i + 1) (ys ++ [v]) H'') := by
 refine ⟨xs.length, W, hz, h0, fun i ys H hi hl hw => ?_⟩
 have q := hq i ys H hw
 by_cases hlt : i < xs.length
 · refine .inr ⟨⟨xs, xs[i], q, by simp [hlt]⟩, hlt, fun v H' y => ?_⟩
   obtain ⟨e, y⟩ := y
   subst e
   exact hs i v ys _ (y xs q) hl hw
 · have e : i = xs.length := by omega
   subst e
   exact .inl ⟨⟨xs, q, Nat.le_refl _⟩, hd ys H hl hw⟩
section
variable {X : Cx}
theorem strs_of {ys : List Str} : ∀ {its : List Value}, Vals (ys.map V.str) its → StrsAre its ys := by
 induction ys with
 | nil => intro its r; cases r; exact .nil
 | cons y ys ih =>
   intro its r
   cases r with
   | cons a b => obtain ⟨t, rfl⟩ := a; exact .cons _ _ (ih b)
def joinS (sep : Str) (ys : List Str) : Str := Txt.join sep ys
theorem mt_join : MtM X "str.join" (fun x vs H Q => ∃ (sep : Str) (p : Addr) (ys : List Str), x = .str sep ∧ vs = [.ref p] ∧ (SqL X.K H p (ys.map V.str) ∨ SqT X.K H p (ys.map V.str)) ∧ (ys.map (·.length)).sum + ys.length * sep.length ≤ 16777216 ∧ Q (.str (joinS sep ys)) H) := by
 intro pins s σ H x vs v us Q I rx rv h
 obtain ⟨sep, p, ys, rfl, rfl, hq, hz, q⟩ := h
 obtain ⟨t, rfl⟩ := rx
 obtain ⟨u, rfl, ru⟩ := rv.one
 cases ru
 rcases hq with hq | hq
 · obtain ⟨its, r, pl, _⟩ := I.list hq
   exact join_list pl.isList (by simpa using strs_of r) hz fun t' k => ⟨.str _, H, I.tok _, ⟨_, rfl⟩, q⟩
 · obtain ⟨its, r, pl, _⟩ := I.tuple hq
   exact join_tuple pl (by simpa using strs_of r) hz fun t' k => ⟨.str _, H, I.tok _, ⟨_, rfl⟩, q⟩
theorem op_mulB : OpR X (binaryOp .Mult) (rI (fun i j => Builtin.Int.intBits i ≤ 60000000 ∧ Builtin.Int.intBits j ≤ 60000000) fun i j => .int (i * j)) := opI fun i j _ _ _ _ _ hc q => mul_int q (IntMulOk.of_le hc.1 hc.2 (by decide))
end
end L2
namespace Att
open PySem PySem.W PySem.Calls PyProof.Rows
theorem bits_of_lay {ns : List Int} (h : WData.layableAll [WData.list (ns.map WData.int)] = true) : ∀ n ∈ ns, Builtin.Int.intBits n ≤ 1048576 := by
 have h1 : (WData.list (ns.map WData.int)).layable = true := by simpa [WData.layableAll] using h
 intro n hn
 have h2 := layableW_item h1 (.int n) (List.mem_map.mpr ⟨n, hn, rfl⟩)
 have h3 := (layableW_iff.mp h2).2.2
 simpa [WData.weight, Builtin.Int.intBits] using h3
theorem attach_callB {l : OpenLaw} {n : Nat} {q : Program} {loose : List Str} {XP : (Str → Option Value) → Heap → Prop} {YP : World → Heap → Prop} {d : DefRec}
   (hn : l.most = some n) (hdf : d.params.defaults = [])
   (call : ∀ (w : World) (s₀ s₁ : Shared) (mg mb : Str → Option Value) (fa : Addr) (o : Obj) (pm cd doc : Value) (a : Addr) (vs : List Value) (ns : List Int),
     Ground q loose [] XP w s₀ mg mb s₁.heap → YP w s₁.heap →
     s₁.heap.get? fa = some o → o.data = .func (docDef d.name d.params d.body d.scope pm cd doc) → s₁.heap.CodeRec cd d.name → mg d.name = some (.ref fa) →
     s₁.heap.get? a = some { cls := .type "list", data := .seq vs.toArray } → IntsAre vs ns → ns.length ≤ n → (∀ n ∈ ns, Builtin.Int.intBits n ≤ 1048576) → s₁.gens = #[] →
     codeAny (model l.prog w) callerA (.call (.ref fa) ⟨[.ref a], []⟩) (fun r s' => r = .ok (.ret (.bool true)) ∧ OldK s₁.heap s'.heap ∧ s'.os = s₁.os ∧ AllBare s'.gens) s₁) :
   WalkO q loose XP YP l.row.toRowW d [] (fun f vs => PySem.call f vs) := by
 intro w s₀ s₁ mg mb G Y fa o pm cd doc dV kV ho hd hcd hD hmg hg args vals as hpre hlay hrd hwl hlo
 obtain rfl : dV = .none := Dflts.none hD hdf
 obtain rfl : kV = .none := Dflts.noKw hD
 obtain ⟨a, vs, ns, rfl, rfl, hobj, hints, hlen⟩ := script_of hn hpre hwl
 refine enter_call (codeAny_mono (call w s₀ s₁ mg mb fa o pm cd doc a vs ns G Y ho (fd_plain hd) hcd hmg hobj hints hlen (bits_of_lay hlay) hg) fun r s' hq => ?_)
 obtain ⟨rfl, h2, h3, h4⟩ := hq
 exact ⟨.inl ⟨.bool true, .bool true, [], rfl, fun _ => rfl, .bool true, post_true l _, fun _ => ⟨List.Pairwise.nil, fun _ hm => (nomatch hm)⟩⟩, h2, h3, h4⟩
end Att
namespace L2
open PySem PySem.Spec PyProof.Rows
theorem walk_ofB {l : PySem.W.OpenLaw} {n k : Nat} {q : Program} {loose : List Str} {XP : (Str → Option Value) → Heap → Prop} {YP : World → Heap → Prop} {d : DefRec} {K : Params → PySem.W.Frag} {CX : World → CXT} {sp : World → Sp} {x : Str}
   (hn : l.most = some n) (hn2 : n ≤ sizeLine) (hdf : d.params.defaults = []) (hr : Room k callerA)
   (hY : ∀ (w : World) (h : Heap), YP w h → (K w.params).In h)
   (F : ∀ (w : World) (mg : Str → Option Value) (fa : Addr) (h : Heap), (K w.params).In h → h.Ns mainGlobals mg → mg d.name = some (.ref fa) →
     ∃ fd : FuncData, (∀ (s : Shared) (u : Value), BindsTo s fd ⟨[u], []⟩ [(x, u)]) ∧
       ∀ base : Heap, (K w.params).In base → base.Ns mainGlobals mg → FnOk l.prog w (K w.params) mg base (CX w) k fa fd [x] (sp w))
   (hsp : ∀ (w : World) (H : Hp) (a : Addr) (ns : List Int), ns.length ≤ n → (∀ n ∈ ns, Builtin.Int.intBits n ≤ 1048576) → Only H → SqL (K w.params) H a (ns.map V.int) → sp w [.ref a] H (fun v _ => v = .bl true) fun _ _ _ => False)
   (hCX : ∀ (w : World) (H : Hp) (s : Shared) (e : Value) (s' : Shared), CX w [] H s (fun _ _ _ => False) e s' → False) :
   PySem.W.WalkO q loose XP YP l.row.toRowW d [] (fun f vs => PySem.call f vs) := by
 refine Att.attach_callB hn hdf fun w s₀ s₁ mg mb fa o pm cd doc a vs ns G Y ho hd hcd hmg hobj hints hlen hbits hg => ?_
 have KX := hY w _ Y
 obtain ⟨fd, hb, hF⟩ := F w mg fa _ KX G.T.g hmg
 exact law_call KX G.T.g G.T.b G.T.builtins G.T.nolimit hg hobj hints (Nat.le_trans hlen hn2) hr hF hb (fun H hO hS => hsp w H a ns hlen hbits hO hS) fun H e s' => hCX w H s₁ e s'
def GlobV (mg : Str → Option Value) (x : Str) (v : V) : Prop := ∃ u, mg x = some u ∧ RelV v u
theorem xL {X : Cx} {x : Str} {v : V} {pos : Pos} (hg : Gl X x) (h : GlobV X.mg x v) (hd : (x == ("__debug__" : Str)) = false := by decide) : PE X (.Name x pos) (tC v) := by
 obtain ⟨u, hm, r⟩ := h
 exact pe_glob hg hm r hd
theorem SqT.mod {K : PySem.W.Frag} {a : Addr} {oc : Value} {od : Option Addr} {its : Array Value} {n : Nat} {sl : Array (Option Value)} {xs : List V} (h : K.lookup a = some ⟨oc, od, .seq its n, sl⟩) (hc : oc = .type "tuple") (hz : its.size ≤ sizeLine) (hv : Vals xs its.toList) (H : Hp) : SqT K H a xs :=
 .inr ⟨_, its, n, h, hc, rfl, hz, hv⟩
theorem Same.tup {K : PySem.W.Frag} {H H' : Hp} {a : Addr} {xs : List V} (e : Same H H') (h : SqT K H a xs) : SqT K H' a xs := by
 rcases h with (h | ⟨o, h⟩) | h
 · exact .inl (.inl (e _ _ h))
 · exact .inl (.inr ⟨o, e _ _ h⟩)
 · exact .inr h
theorem zD {H : Hp} {p : Addr} (h : H p = none) (o : HO) : Same H (upd H p o) := fun b u q => by rw [zK (zI q h)]; exact q
namespace Bt
theorem int : bootBuiltins "int" = some (.type "int") := PyProof.Rows.boot_int
theorem bool : bootBuiltins "bool" = some (.type "bool") := PyProof.Rows.boot_bool
theorem str : bootBuiltins "str" = some (.type "str") := PyProof.Rows.boot_str
theorem list : bootBuiltins "list" = some (.type "list") := PyProof.Rows.boot_list
theorem tuple : bootBuiltins "tuple" = some (.type "tuple") := PyProof.Rows.boot_tuple
theorem dict : bootBuiltins "dict" = some (.type "dict") := PyProof.Rows.boot_dict
theorem set : bootBuiltins "set" = some (.type "set") := PyProof.Rows.boot_set
theorem isinstance : bootBuiltins "isinstance" = some (.builtin "isinstance") := PyProof.Rows.boot_isinstance
theorem all : bootBuiltins "all" = some (.builtin "all") := PyProof.Rows.boot_all
theorem abs : bootBuiltins "abs" = some (.builtin "abs") := PyProof.Rows.Boot.«abs»
end Bt
end L2
namespace L2
open PySem PySem.Spec PyProof.Rows
abbrev ib (x : Int) : Nat := Builtin.Int.intBits x
theorem ib_small {x : Int} (h1 : -(2 ^ 64) < x) (h2 : x < 2 ^ 64) : ib x ≤ 64 := intBits_le_64 h1 h2
theorem ib_big {m : Nat} {x : Int} (h : x.natAbs < 2 ^ m) : ib x ≤ m := intBits_le_iff.mpr h
theorem at_some {α : Type} {l : List α} {i : Int} (h0 : 0 ≤ i) (h1 : i < l.length) : ∃ c, atI l i = some c ∧ l[i.toNat]? = some c := by
 have hk : i.toNat < l.length := by omega
 refine ⟨l[i.toNat], ?_, List.getElem?_eq_getElem hk⟩
 have e : i = ((i.toNat : Nat) : Int) := by omega
 have q : atI l ((i.toNat : Nat) : Int) = some l[i.toNat] := yS (List.getElem?_eq_getElem hk)
 rw [← e] at q
 exact q
theorem Same.ty {K : PySem.W.Frag} {H H' : Hp} {x : V} {t : Value} (e : Same H H') (h : TyOf K H x t) : TyOf K H' x t := by
 cases h with
 | non => exact .non
 | bl x => exact .bl x
 | int i => exact .int i
 | str x => exact .str x
 | flt x => exact .flt x
 | lst q => exact .lst (e _ _ q)
 | frz q => exact .frz (e _ _ q)
 | tup q => exact .tup (e _ _ q)
 | dK q => exact .dK (e _ _ q)
 | dT q => exact .dT (e _ _ q)
 | ins q a b c d f => exact .ins (e _ _ q) a b c d f
theorem yP {n m : Nat} (h : n ≤ m) (hm : m ≤ 16777216 := by decide) : n ≤ sizeLine := by rw [sizeLine_eq]; omega
def joinL (sep : List Nat) : List (List Nat) → List Nat
 | [] => []
 | [x] => x
 | x :: y :: r => x ++ sep ++ joinL sep (y :: r)
theorem joinS_is (sep : Str) (ys : List Str) : joinS sep ys = S (joinL (cd sep) (ys.map cd)) := by
 have e : joinS sep ys = Str.join sep ys := StrLaws.glued_eq_join sep ys
 rw [e]
 clear e
 induction ys with
 | nil => rfl
 | cons y r ih =>
   cases r with
   | nil => exact (S_cd y).symm
   | cons z r =>
     show y ++ sep ++ Str.join sep (z :: r) = S (cd y ++ cd sep ++ joinL (cd sep) ((z :: r).map cd))
     rw [ih, ← S_app, ← S_app, S_cd, S_cd]
structure CompR (J : It) (te : TE) (σ : St) (H1 : Hp) (Q : VK) : Prop where
 ex : ∃ (n : Nat) (W : Nat → List V → Hp → Prop), n ≤ sizeLine ∧ W 0 [] H1 ∧ ∀ i ys H, i ≤ n → ys.length = i → W i ys H →
   (J.stop i H ∧ ∀ p, H p = none → Q (.ref p) (upd H p (.lst ys))) ∨ (J.go i H ∧ i < n ∧ ∀ x H', J.yld i H x H' → te (some x :: σ) H' fun v H'' => W (i + 1) (ys ++ [v]) H'')
def tCompR (wi : TI) (te : TE) : TE := fun σ H Q => wi σ H fun J H1 => CompR J te σ H1 Q
structure ForR (J : It) (g : TG) (tb : TS) (D : Ends) (σ : St) (H1 : Hp) : Prop where
 ex : ∃ W : Nat → Nat → St → Hp → Prop, (∃ m, W 0 m σ H1) ∧ ∀ i m σ H, W i m σ H →
   (J.stop i H ∧ D.nx σ H) ∨ (J.go i H ∧ ∃ N : St → Hp → Prop, (∀ σ' H', N σ' H' → ∃ m', m' < m ∧ W (i + 1) m' σ' H') ∧ ∀ x H', J.yld i H x H' → g x σ H' fun σ2 H2 => tb { D with nx := N, ct := N, bk := D.nx } σ2 H2)
def tForR (wi : TI) (g : TG) (tb : TS) : TS := fun D σ H => wi σ H fun J H1 => ForR J g tb D σ H1
structure WhileR (c : TT) (tb : TS) (D : Ends) (σ : St) (H : Hp) : Prop where
 ex : tWhile c tb D σ H
def tWhileR (c : TT) (tb : TS) : TS := fun D σ H => WhileR c tb D σ H
theorem PI.weak {X : Cx} {tg iter : Expr} {wi : TI} (h : PI X tg iter wi) {pins : List (Addr × Obj)} {s : Shared} {σ : St} {H : Hp} {R R' : It → Hp → Prop} (I : Inv X pins σ H s) (hw : wi σ H R) (hR : ∀ J H1, R J H1 → R' J H1) :
   wpAny (model X.prog X.w) X.A (eval iter X.env) (fun v s1 => wpAny (model X.prog X.w) X.A (pyIter v) (PIE X pins σ tg R') X.xe s1) X.xe s := by
 refine thn (h pins s σ H R I hw) fun v s1 h1 => thn h1 fun itv s2 ⟨it, fp, tn, J, H', e, I', T, st, f, r⟩ => ?_
 exact ⟨it, fp, tn, J, H', e, I', T, st, f, hR J H' r⟩
section
variable {X : Cx} {scope : Scope} {x : Str} {M : List Str} {elt iter : Expr} {px pos : Pos} {te : TE} {wi : TI}
theorem pi_conv {tg : Expr} {wi wi' : TI} (h : PI X tg iter wi) (hw : ∀ σ H R, wi' σ H R → ∃ R0, wi σ H R0 ∧ ∀ J H1, R0 J H1 → R J H1) : PI X tg iter wi' := by
 intro pins s σ H R I q
 obtain ⟨R0, q0, hR⟩ := hw σ H R q
 exact h.weak I q0 hR
theorem pe_compR (K : CompOk X scope x M) (hc : X.calm = true) (hi : PI X (.Name x px) iter wi) (he : ∀ (C : Addr) (s₂ : Shared) (H₂ : Hp) (fp : List Addr), PE (compCx X scope C x M s₂ H₂ fp) elt te)
   (hs : ∀ x, foldedSetIterable iter X.env x = pure x := by intro _; rfl) : PE X (.ListComp elt [⟨.Name x px, iter, [], 0⟩] scope pos) (tCompR wi te) := by
 intro pins s σ H Q I h
 have q := pe_comp (pos := pos) K hc (wi := fun σ0 H0 R0 => ∃ R, wi σ0 H0 R ∧ ∀ J H1, R J H1 → R0 J H1) (pi_conv hi fun σ H R ⟨R1, a, b⟩ => ⟨R1, a, b⟩) he hs pins s σ H Q I
 exact q ⟨_, h, fun J H1 r => r.ex⟩
theorem ps_compR {i : Nat} {y : Str} {spos py : Pos} (hN : X.N.Nodup) (hy : X.N[i]? = some y) (hl : Loc X.env.scope y) (K : CompOk X scope x M) (hc : X.calm = true) (hi : PI X (.Name x px) iter wi) (he : ∀ (C : Addr) (s₂ : Shared) (H₂ : Hp) (fp : List Addr), PE (compCx X scope C x M s₂ H₂ fp) elt te)
   (hsw : swapsWith (.ListComp elt [⟨.Name x px, iter, [], 0⟩] scope pos) (some (.Name y py)) spos.line X.env = pure true := by rfl)
   (hs : ∀ x, foldedSetIterable iter X.env x = pure x := by intro _; rfl) (hf : X.fn y = true ∨ X.env.scope.names.lookup y = some .local := by first | exact .inl rfl | exact .inr rfl | assumption) :
   PS X (.Assign [.Name y py] (.ListComp elt [⟨.Name x px, iter, [], 0⟩] scope pos) spos) (tAsg (tCompR wi te) (gName i)) := by
 intro pins s σ H D I h
 have q := ps_comp (pos := pos) (spos := spos) hN hy hl K hc (wi := fun σ0 H0 R0 => ∃ R, wi σ0 H0 R ∧ ∀ J H1, R J H1 → R0 J H1) (pi_conv hi fun σ H R ⟨R1, a, b⟩ => ⟨R1, a, b⟩) he hsw hs hf pins s σ H D I
 exact q ⟨_, h, fun J H1 r => r.ex⟩
theorem ps_forR {tg : Expr} {body : List Stmt} {g : TG} {tb : TS} (hp : PassesOwn (model X.prog X.w) X.A X.env X.xe) (hc : X.calm = true) (hi : PI X tg iter wi) (hg : PG X tg g) (hb : PSs X body tb)
   (hs : ∀ x, foldedSetIterable iter X.env x = pure x := by intro _; rfl) : PS X (.For tg iter body [] pos) (tForR wi g tb) := by
 intro pins s σ H D I h
 have q := ps_for (pos := pos) hp hc (wi := fun σ0 H0 R0 => ∃ R, wi σ0 H0 R ∧ ∀ J H1, R J H1 → R0 J H1) (pi_conv hi fun σ H R ⟨R1, a, b⟩ => ⟨R1, a, b⟩) hg hb hs pins s σ H D I
 exact q ⟨_, h, fun J H1 r => r.ex⟩
theorem ps_whileR {c : Expr} {body : List Stmt} {tc : TT} {tb : TS} (hp : PassesOwn (model X.prog X.w) X.A X.env X.xe) (hc : PT X c tc) (hb : PSs X body tb) : PS X (.While c body [] pos) (tWhileR tc tb) := fun pins s σ H D I h => ps_while hp hc hb pins s σ H D I h.ex
end
theorem comp_rangeR {lo : Int} {n : Nat} {te : TE} {σ : St} {H : Hp} {Q : VK} (hz : n ≤ sizeLine) (W : Nat → List V → Hp → Prop) (h0 : W 0 [] H)
   (hs : ∀ i ys H, i < n → ys.length = i → W i ys H → te (some (.int (lo + i)) :: σ) H fun v H' => W (i + 1) (ys ++ [v]) H')
   (hd : ∀ ys H, ys.length = n → W n ys H → ∀ p, H p = none → Q (.ref p) (upd H p (.lst ys))) : CompR (Itr lo n) te σ H Q := ⟨comp_range hz W h0 hs hd⟩
theorem comp_listR {K : PySem.W.Frag} {a : Addr} {xs : List V} {te : TE} {σ : St} {H : Hp} {Q : VK} (hz : xs.length ≤ sizeLine) (W : Nat → List V → Hp → Prop) (h0 : W 0 [] H) (hq : ∀ i ys H, W i ys H → SqL K H a xs)
   (hs : ∀ i x ys H, xs[i]? = some x → ys.length = i → W i ys H → te (some x :: σ) H fun v H' => W (i + 1) (ys ++ [v]) H')
   (hd : ∀ ys H, ys.length = xs.length → W xs.length ys H → ∀ p, H p = none → Q (.ref p) (upd H p (.lst ys))) : CompR (Itl K a) te σ H Q := ⟨comp_list hz W h0 hq hs hd⟩
theorem yQ {K : PySem.W.Frag} {a : Addr} {xs : List V} {g : TG} {tb : TS} {D : Ends} {σ : St} {H : Hp} (Pv : Nat → St → Hp → Prop) (h0 : Pv 0 σ H) (hl : ∀ i σ H, i ≤ xs.length → Pv i σ H → SqL K H a xs)
   (hs : ∀ i x σ H, xs[i]? = some x → Pv i σ H → g x σ H fun σ2 H2 => tb { D with nx := Pv (i + 1), ct := Pv (i + 1), bk := D.nx } σ2 H2) (hd : ∀ σ H, Pv xs.length σ H → D.nx σ H) : ForR (Itl K a) g tb D σ H := ⟨for_list Pv h0 hl hs hd⟩
theorem for_rangeR {lo : Int} {n : Nat} {g : TG} {tb : TS} {D : Ends} {σ : St} {H : Hp} (Pv : Nat → St → Hp → Prop) (h0 : Pv 0 σ H)
   (hs : ∀ i σ H, i < n → Pv i σ H → g (.int (lo + i)) σ H fun σ2 H2 => tb { D with nx := Pv (i + 1), ct := Pv (i + 1), bk := D.nx } σ2 H2) (hd : ∀ σ H, Pv n σ H → D.nx σ H) : ForR (Itr lo n) g tb D σ H := ⟨for_range Pv h0 hs hd⟩
theorem map_get {α : Type} {f : α → V} {l : List α} {i : Nat} {x : V} (h : (l.map f)[i]? = some x) : ∃ a, l[i]? = some a ∧ x = f a := by
 rw [List.getElem?_map] at h
 cases e : l[i]? with
 | none => rw [e] at h; cases h
 | some a => rw [e] at h; exact ⟨a, rfl, (Option.some.inj h).symm⟩
theorem kit_ty {K : PySem.W.Frag} {a b : String} {r : Bool} (h : (if (Value.type a == Value.type b) = true then some true else if PySem.W.kitMeta b = true then (fastBuiltinMro a).map (·.contains (Value.type b)) else none) = some r) : PySem.W.kitOne K (.type a) (.type b) = some r := h
end L2
namespace L2
open PySem PySem.Spec PyProof.Rows PySem.Calls
def TrD (h base : Heap) (e : Addr) (cls : Value) (dct : Option Addr) (fl : Value) : Prop :=
 ∃ oe vs T oT ts, h.get? e = some oe ∧ (oe.cls = cls ∧ oe.dict = dct) ∧ oe.data = .fields vs ∧ vs[1]? = some (.ref T) ∧ base.get? T = none ∧ T ≠ e ∧ h.get? T = some oT ∧ oT.data = .fields ts ∧ ts[3]? = some fl
def FlyD (base : Heap) (l : List Env) (e : Addr) (cls : Value) (dct : Option Addr) (fl : Value) (h : Heap) : Prop :=
 base.StaysIn h ∧ base.get? e = none ∧ h.FunFrames base l ∧ TrD h base e cls dct fl
theorem FlyD.there {base h : Heap} {l : List Env} {e : Addr} {cls fl : Value} {dct : Option Addr} (x : FlyD base l e cls dct fl h) : ∃ ob, h.get? e = some ob ∧ ob.cls = cls ∧ ob.dict = dct ∧ ∃ vs, ob.data = .fields vs := by
 obtain ⟨_, _, _, oe, vs, _, _, _, he, hc, hd, _⟩ := x
 exact ⟨oe, he, hc.1, hc.2, vs, hd⟩
theorem dict_mapF (o : Obj) (g : Array Value → Array Value) : (Obj.mapFields g o).dict = o.dict := by
 obtain ⟨a, b, c, d⟩ := o
 cases c <;> rfl
section
variable {M : Model} {A : Around} {E : Value → Shared → Prop} {s : Shared}
theorem entryD {base : Heap} {env : Env} {outer : List Env} {L e : Addr} {oe : Obj} {vs : Array Value} {head : Value} {hadNext : Bool} {Q : Unit → Shared → Prop}
   (hfr : A.frames = some (env :: outer)) (hl : s.heap.FunFrames base (env :: outer)) (hf : env.frame = some L)
   (he : s.heap.get? e = some oe) (hkb : base.StaysIn s.heap) (hen : base.get? e = none) (hd : oe.data = .fields vs) (hsz : 1 < vs.size)
   (h : ∀ h', FlyD base (env :: outer) e oe.cls oe.dict (rawInt L) h' → s.heap.UpToSlots h' → Q () { s with heap := h' }) :
   wpAny M A (do let a ← frameOf env; let pl ← entryPlaceOf L hadNext; let b ← EntryCells.newEntry head a .none (rawInt L) .none pl; setField (.ref e) 1 b) Q E s := by
 have n1 : e ∉ (env :: outer).filterMap (·.frame) := fun hm => by
   obtain ⟨_, o, ho, z⟩ := hl.mem hm
   rw [he] at ho; injection ho with ho; subst ho; exact z vs hd
 refine wpAny_bind (wpAny_frameOf_fun hfr hl hf fun g1 p1 => ?_)
 refine wpAny_bind (wpAny_entryPlaceOf fun pl hpl => ?_)
 unfold EntryCells.newEntry newFields
 refine wpAny_bind (wpAny_newObj_type ?_ (hpl.sizeOk5 _ _ _ _ _))
 have q1 : g1.get? e = some oe := (p1.2.1 e n1).trans he
 have k1 : base.StaysIn g1 := fun b o z => (p1.2.1 b fun hm => by rw [(hl.mem hm).1] at z; cases z).trans (hkb b o z)
 generalize hT : ({ cls := .type "traceback", dict := none, data := .fields ([head, .ref L, .none, rawInt L, .none] ++ (if pl.isEmpty then List.replicate 6 Value.none else pl)).toArray } : Obj) = oT
 have q2 := Heap.get?_push_of_some (h := g1) oT q1
 refine wpAny_setField q2 hd hsz (h _ ?_ ?_)
 all_goals
   have hne : g1.objs.size ≠ e := Nat.ne_of_gt (Heap.lt_size q1)
   have d3 := Obj.data_mapFields hd (·.setIfInBounds 1 (Value.ref g1.objs.size))
   have keep : ∀ b o, b ≠ e → g1.get? b = some o → ((g1.push oT).update e (Obj.mapFields (·.setIfInBounds 1 (Value.ref g1.objs.size)))).get? b = some o := fun b o z1 z2 => by
     rw [Heap.get?_update_other _ _ (Ne.symm z1)]
     exact Heap.get?_push_of_some _ z2
   have noR : ∀ b o, s.heap.get? b = some o → (∀ vs, o.data ≠ .fields vs) → b ≠ e := fun b o z1 z2 q => by
     rw [q, he] at z1; injection z1 with z1; subst z1; exact z2 vs hd
 · refine ⟨fun b o z => keep b o (fun q => by rw [q, hen] at z; cases z) (k1 b o z), hen, hl.of_keeps fun b o z1 z2 => ?_, ?_⟩
   · obtain ⟨sl, hs⟩ := p1.2.2 b o z1
     exact ⟨_, keep b _ (noR b o z1 z2) hs, rfl⟩
   · refine ⟨_, _, g1.objs.size, oT, ([head, .ref L, .none, rawInt L, .none] ++ (if pl.isEmpty then List.replicate 6 Value.none else pl)).toArray, Heap.get?_update_self _ q2 (Obj.isFreed_of_fields d3), ⟨Obj.cls_mapFields _ _, dict_mapF _ _⟩, d3, by simp [hsz], k1.fresh, hne, ?_, by rw [← hT], by first | (simp; done) | (rcases hpl with rfl | ⟨_, _, _, _, _, _, _, rfl⟩ <;> simp)⟩
     rw [Heap.get?_update_other _ _ (Ne.symm hne)]
     exact Heap.get?_push_size g1 (by rw [← hT]; rfl)
 · intro b o z1 z2
   obtain ⟨sl, hs⟩ := p1.2.2 b o z1
   exact ⟨sl, keep b _ (noR b o z1 z2) hs⟩
theorem noteFirstD {base : Heap} {env : Env} {outer : List Env} {L e : Addr} {oe : Obj} {vs : Array Value} {Q : Unit → Shared → Prop}
   (hfr : A.frames = some (env :: outer)) (hl : s.heap.FunFrames base (env :: outer)) (hf : env.frame = some L)
   (he : s.heap.get? e = some oe) (hkb : base.StaysIn s.heap) (hen : base.get? e = none) (hd : oe.data = .fields vs) (h1 : vs[1]? = some .none)
   (h : ∀ h', FlyD base (env :: outer) e oe.cls oe.dict (rawInt L) h' → s.heap.UpToSlots h' → Q () { s with heap := h' }) : wpAny M A (noteFrame (.ref e) env) Q E s := by
 unfold noteFrame
 simp only [hf]
 refine wpAny_bind (wpAny_field he hd h1 ?_)
 rw [if_neg (by decide)]
 exact entryD hfr hl hf he hkb hen hd (Array.getElem?_eq_some_iff.mp h1).1 h
theorem noteOnD {base : Heap} {env : Env} {outer : List Env} {L e : Addr} {cls : Value} {dct : Option Addr} {Q : Unit → Shared → Prop}
   (hfr : A.frames = some (env :: outer)) (hf : env.frame = some L) (x : FlyD base (env :: outer) e cls dct .none s.heap)
   (h : ∀ h', FlyD base (env :: outer) e cls dct (rawInt L) h' → s.heap.UpToSlots h' → Q () { s with heap := h' }) : wpAny M A (noteFrame (.ref e) env) Q E s := by
 obtain ⟨hkb, hen, hl, oe, vs, T, oT, ts, he, ⟨hc, hdc⟩, hd, h1, hnT, hTe, hT, hdT, h3⟩ := x
 subst hc hdc
 unfold noteFrame
 simp only [hf]
 refine wpAny_bind (wpAny_field he hd h1 ?_)
 rw [if_pos (show (Value.ref T != Value.none) = true from by simp)]
 refine wpAny_bind (wpAny_field hT hdT h3 ?_)
 rw [if_neg (show ¬ ((Value.none == rawInt L) = true) from by simp [rawInt])]
 refine wpAny_bind (wpAny_setField hT hdT (Array.getElem?_eq_some_iff.mp h3).1 ?_)
 have oth : ∀ b, b ≠ T → (s.heap.update T (Obj.mapFields (·.setIfInBounds 3 Value.none))).get? b = s.heap.get? b := fun b z => Heap.get?_update_other _ _ (Ne.symm z)
 have noR : ∀ b o, s.heap.get? b = some o → (∀ vs, o.data ≠ .fields vs) → b ≠ T := fun b o z1 z2 q => by
   rw [q, hT] at z1; injection z1 with z1; subst z1; exact z2 ts hdT
 refine entryD (oe := oe) (vs := vs) hfr (hl.of_keeps fun b o z1 z2 => ⟨o, (oth b (noR b o z1 z2)).trans z1, rfl⟩) hf ((oth e (Ne.symm hTe)).trans he)
   (fun b o z => (oth b fun q => by rw [q, hnT] at z; cases z).trans (hkb b o z)) hen hd (Array.getElem?_eq_some_iff.mp h1).1
   fun h' x1 x2 => h h' x1 fun b o z1 z2 => x2 b o ((oth b (noR b o z1 z2)).trans z1) z2
theorem flightD {base : Heap} {l : List Env} {e : Addr} {cls fl : Value} {dct : Option Addr} {Q : Unit → Shared → Prop} (x : FlyD base l e cls dct fl s.heap)
   (h : ∀ h', FlyD base l e cls dct .none h' → s.heap.UpToSlots h' → Q () { s with heap := h' }) : wpAny M A (setFlight (.ref e) none) Q E s := by
 obtain ⟨hkb, hen, hl, oe, vs, T, oT, ts, he, hc, hd, h1, hnT, hTe, hT, hdT, h3⟩ := x
 have z3 : 3 < ts.size := (Array.getElem?_eq_some_iff.mp h3).1
 have oth : ∀ b, b ≠ T → (s.heap.update T (Obj.mapFields (·.setIfInBounds 3 ((none : Option Addr).elim Value.none fun f => rawInt f)))).get? b = s.heap.get? b :=
   fun b z => Heap.get?_update_other _ _ (Ne.symm z)
 have noR : ∀ b o, s.heap.get? b = some o → (∀ vs, o.data ≠ .fields vs) → b ≠ T := fun b o z1 z2 q => by
   rw [q, hT] at z1; injection z1 with z1; subst z1; exact z2 ts hdT
 unfold setFlight
 refine wpAny_bind (wpAny_field he hd h1 ?_)
 rw [if_pos (show (Value.ref T != Value.none) = true from by simp)]
 refine wpAny_setField hT hdT z3 (h _ ⟨fun b o z => (oth b fun q => by rw [q, hnT] at z; cases z).trans (hkb b o z), hen,
   hl.of_keeps fun b o z1 z2 => ⟨o, (oth b (noR b o z1 z2)).trans z1, rfl⟩, ?_⟩ fun b o z1 z2 => ⟨o.slots, (oth b (noR b o z1 z2)).trans z1⟩)
 exact ⟨oe, vs, T, _, _, (oth e (Ne.symm hTe)).trans he, hc, hd, h1, hnT, hTe, Heap.get?_update_self _ hT (Obj.isFreed_of_fields (Obj.data_mapFields hdT _)), Obj.data_mapFields hdT _, by simp [z3]⟩
theorem FlyD.less {base h : Heap} {env : Env} {l : List Env} {e : Addr} {cls fl : Value} {dct : Option Addr} (x : FlyD base (env :: l) e cls dct fl h) : FlyD base l e cls dct fl h := by
 obtain ⟨a, b, ⟨_, _, c⟩, d⟩ := x
 exact ⟨a, b, c, d⟩
theorem leaveFirstD {base : Heap} {env : Env} {outer : List Env} {L e : Addr} {oe : Obj} {vs : Array Value} {Q : Unit → Shared → Prop}
   (hfr : A.frames = some (env :: outer)) (hl : s.heap.FunFrames base (env :: outer)) (hf : env.frame = some L)
   (he : s.heap.get? e = some oe) (hkb : base.StaysIn s.heap) (hen : base.get? e = none) (hd : oe.data = .fields vs) (h1 : vs[1]? = some .none)
   (h : ∀ h', FlyD base outer e oe.cls oe.dict .none h' → s.heap.UpToSlots h' → Q () { s with heap := h' }) : wpAny M A (leaving env (.ref e)) Q E s := by
 unfold leaving
 refine wpAny_bind (noteFirstD hfr hl hf he hkb hen hd h1 fun g1 x1 u1 => ?_)
 refine flightD (s := { s with heap := g1 }) x1 fun g2 x2 u2 => ?_
 exact h g2 x2.less (u1.trans u2)
theorem leaveOnD {base : Heap} {env : Env} {outer : List Env} {L e : Addr} {cls : Value} {dct : Option Addr} {Q : Unit → Shared → Prop}
   (hfr : A.frames = some (env :: outer)) (hf : env.frame = some L) (x : FlyD base (env :: outer) e cls dct .none s.heap)
   (h : ∀ h', FlyD base outer e cls dct .none h' → s.heap.UpToSlots h' → Q () { s with heap := h' }) : wpAny M A (leaving env (.ref e)) Q E s := by
 unfold leaving
 refine wpAny_bind (noteOnD hfr hf x fun g1 x1 u1 => ?_)
 refine flightD (s := { s with heap := g1 }) x1 fun g2 x2 u2 => ?_
 exact h g2 x2.less (u1.trans u2)
end
end L2
namespace L2
open PySem PySem.Spec PyProof.Rows PySem.Calls
structure XUn (outer : List Env) (H H' : Hp) (h B h1 : Heap) : Prop where
 keepB : ∀ b o, h.get? b = some o → H b = none → b ∉ frs outer → B.get? b = some o
 thereB : ∀ b o, h.get? b = some o → b ∉ frs outer → ∃ o', B.get? b = some o'
 slot : ∀ b o, h.get? b = some o → H b = none → b ∈ frs outer → ∃ sl, h1.get? b = some { o with slots := sl }
 free : ∀ b o, h.get? b = some o → H b = none → H' b = none
 tups : ∀ b xs, H b = some (.tup xs) → H' b = some (.tup xs)
 frzs : ∀ b o u, H b = some (.frz o u) → H' b = some (.frz o u)
 tbls : ∀ b ps, H b = some (.tbl ps) → ∃ more, H' b = some (.tbl (ps ++ more))
theorem XUn.step {outer : List Env} {H H' : Hp} {h B h1 h2 base : Heap} (x : XUn outer H H' h B h1) (fr : h1.FunFrames base outer) (up : h1.UpToSlots h2) : XUn outer H H' h B h2 :=
 ⟨x.keepB, x.thereB, fun b o e n hb => by
   obtain ⟨sl, q⟩ := x.slot b o e n hb
   obtain ⟨_, o', ho', hd'⟩ := fr.mem hb
   rw [q] at ho'; cases ho'
   obtain ⟨sl', q'⟩ := up b _ q hd'
   exact ⟨sl', q'⟩, x.free, x.tups, x.frzs, x.tbls⟩
theorem XUn.un {outer : List Env} {H H' : Hp} {h B h1 : Heap} (x : XUn outer H H' h B h1) (st : B.StaysIn h1) (fr : h1.FunFrames B outer) : Un (frs outer) [] H H' h h1 :=
 ⟨fun b o e n hb _ => st b o (x.keepB b o e n hb), fun b o e n hb _ => x.slot b o e n hb, fun b o e n _ => x.free b o e n, fun b o e _ => by
   by_cases hb : b ∈ frs outer
   · obtain ⟨_, o', ho', _⟩ := fr.mem hb
     exact ⟨o', ho'⟩
   · obtain ⟨o', q⟩ := x.thereB b o e hb
     exact ⟨o', st b o' q⟩, x.tups, x.frzs, x.tbls⟩
def CXW (P : Program) (w : World) : CXT := fun outer H s E e s' =>
 ∃ (ea : Addr) (cls : Value) (dct : Option Addr) (H' : Hp) (B : Heap), e = .ref ea ∧ FlyD B outer ea cls dct .none s'.heap ∧ s'.os = s.os ∧ AllBare s'.gens ∧ HOk P w H' B ∧ XUn outer H H' s.heap B s'.heap ∧ E cls dct H'
section
variable {P : Program} {w : World} {K : PySem.W.Frag} {mg : Str → Option Value} {base : Heap} {N : List Str} {qual : Str} {scope : Scope} {f : Addr} {cdv : Value} {A : Around} {outer : List Env} {s : Shared} {H : Hp} {E : XK}
theorem passX : Passes (CXW P w) (cxOf (CXW P w) P w K mg base N qual scope f cdv A outer s H E) E := by
 intro pins σ H1 s1 e s' I h
 obtain ⟨ea, cls, dct, H', B, rfl, fl, os, bare, hok, x, hE⟩ := h
 show wpAny (model P w) _ (leaving (envOfC qual scope s.heap.objs.size f cdv) (.ref ea)) _ _ _
 have noL : ∀ b o, s.heap.get? b = some o → b ∉ frs outer → b ∉ frs (cxOf (CXW P w) P w K mg base N qual scope f cdv A outer s H E).stack := fun b o q n z => by
   rcases List.mem_cons.mp (I.stkSub b z) with z | z
   · have : b < s.heap.objs.size := Heap.lt_size q
     have a := I.ok.above
     rw [← z] at a
     exact absurd (Nat.lt_of_lt_of_le this a) (Nat.lt_irrefl _)
   · exact n z
 refine leaveOnD (outer := outer) I.ok.frames rfl fl fun h2 fl2 up => ?_
 have x2 := x.step fl.2.2.1 up
 refine ⟨ea, cls, dct, H', B, rfl, fl2, os.trans I.os, bare, hok, ⟨fun b o q n hb => ?_, fun b o q hb => ?_, fun b o q n hb => ?_, fun b o q n => ?_, fun b xs q => x.tups b xs (I.base.tups b xs q), fun b o u q => x.frzs b o u (I.base.frzs b o u q), fun b ps q => ?_⟩, hE⟩
 · exact x.keepB b o (I.base.keep b o q n hb (fun z => nomatch z)) (I.base.free b o q n (fun z => nomatch z)) (noL b o q hb)
 · obtain ⟨o', q'⟩ := I.base.there b o q (fun z => nomatch z)
   exact x.thereB b o' q' (noL b o q hb)
 · obtain ⟨sl, q'⟩ := I.base.slot b o q n hb (fun z => nomatch z)
   obtain ⟨sl', q2⟩ := x2.slot b _ q' (I.base.free b o q n (fun z => nomatch z)) (by
     obtain ⟨env, he, hf⟩ := List.mem_filterMap.mp hb
     exact List.mem_filterMap.mpr ⟨env, List.mem_cons_of_mem _ he, hf⟩)
   exact ⟨sl', q2⟩
 · obtain ⟨o', q'⟩ := I.base.there b o q (fun z => nomatch z)
   exact x.free b o' q' (I.base.free b o q n (fun z => nomatch z))
 · obtain ⟨m1, e1⟩ := I.base.tbls b ps q
   obtain ⟨m2, e2⟩ := x.tbls b _ e1
   exact ⟨m1 ++ m2, by rw [e2, Array.append_assoc]⟩
end
section
variable {P : Program} {w : World} {K : PySem.W.Frag} {mg : Str → Option Value} {base : Heap}
theorem Fun.okX {x qual : Str} {st : Stmt} {f : Addr} {fd : FuncData} {N ps : List Str} {k : Nat} {sp : Sp} (F : Fun K x qual st f fd) (S : FnScope N ps (defScope st)) (len : ∀ vs H Q E, sp vs H Q E → vs.length = ps.length)
   (hbody : ∀ (cdv : Value) (A : Around) (outer : List Env) (s : Shared) (H : Hp) (vs : List V) (Q : VK) (E : XK), Room k (A.deeper (envOfC qual (defScope st) s.heap.objs.size f cdv)) → sp vs H Q E →
     ∃ t, PSs (cxOf (CXW P w) P w K mg base N qual (defScope st) f cdv A outer s H E) (defBody st) t ∧ t { nx := fun _ H' => Q .non H', rt := Q } (start N vs) H) : FnOk P w K mg base (CXW P w) (k + 1) f fd ps sp := by
 obtain ⟨oc, od, kV, doc, pm, an, cdv, ct, osl, rfl, lk, hcd⟩ := F.ex
 exact fn_of lk hcd S len fun A outer s H vs Q E hr hsp => hbody cdv A outer s H vs Q E hr hsp
end
end L2
namespace L2
open PySem PySem.Spec PyProof.Rows PySem.Calls PySem.W PySem.Builtin PySem.Builtin.ObjectAttr PySem.Builtin.Getset_descriptor
section
variable {prog : Program} {w : World} {A : Around} {E : Value → Shared → Prop} {s : Shared} {K : PySem.W.Frag} {x D : Addr}
def ClsAt (h : Heap) (x D : Addr) : Prop := ∃ o, h.get? x = some o ∧ o.cls = .ref D
theorem ClsAt.type {M : Model} {h : Heap} (p : ClsAt h x D) : Looks M h (typeOf (.ref x)) (.ref D) := by
 obtain ⟨o, e, c⟩ := p
 exact c ▸ (Looks.ld e).andThen .now
theorem looks_data {M : Model} {h : Heap} {name : Str} {a g : Value} (X : K.In h) (hf : findIn K (.ref D) name = some (some a)) (hg : specialIn K a "__get__" = some (some g)) (ht : takesIn K a = some true) : Looks M h (find (.ref x) (.ref D) name) (.bind g a) := by
 have l1 := looks_findIn (M := M) X hf
 have l2 : Looks M h (getOf (some a)) (some g) := looks_specialIn X hg
 have l3 := looks_takesIn (M := M) X ht
 refine l1.andThen (l2.andThen ?_)
 have l4 : Looks M h (dataDescriptor? (some a) (some g)) (some (g, a)) := l3.andThen .now
 exact l4.andThen (Looks.tag .now)
structure ExcCls (K : PySem.W.Frag) (D : Addr) : Prop where
 ga : findIn K (.ref D) "__getattribute__" = some (some (.builtin "BaseException.__getattribute__"))
 gk : findIn K (.ref D) "__getattr__" = some none
 cl : (clsIn K D).isSome = true
 ha : findIn K (.ref D) "__class__" = some (some (.builtin "object.__class__"))
 hn : specialIn K (.builtin "object.__class__") "__get__" = some (some (.builtin "getset_descriptor.__get__"))
 tk : takesIn K (.builtin "object.__class__") = some true
 mo : mroIn K D (.type "object") = some true
 mb : mroIn K D (.type "BaseException") = some true
theorem class_get {R : Result → Shared → Prop} (c : ExcCls K D) (X : K.In s.heap) (p : ClsAt s.heap x D) (q : R (.ok (.ret (.ref D))) s) :
   codeAny (model prog w) A (.call (.builtin "getset_descriptor.__get__") ⟨[.builtin "object.__class__", .ref x, .ref D], []⟩) R s := by
 obtain ⟨hh, g, d, t, os⟩ := s
 obtain ⟨o, eo, ec⟩ := id p
 have t0 := p.type (M := model prog w)
 have l1 := looks_mroIn (M := model prog w) X c.mo
 have arg0 := KF.args_gs (Value.builtin "object.__class__") (Value.ref x) (Value.ref D)
 refine codeAny_call_builtin KF.slot_gs.plain KF.entry_gs
   (KF.slot_gs.check _ _ _ _ _ _ _ _ KF.type_class arg0 ?_)
 unfold Builtin.«getset_descriptor.__get__»
   descrGet
 rw [dga_obj]; refine wpAny_bind (wpAny_pure ?_)
 unfold descrGetter descrCheckInstance
   descrNameAndClass isInstance
 simp only [KF.owner_class]; (repeat lk)
 refine ⟨Code.quiet_builtin _
   (by symm), codeAny_builtin KF.entry_class ?_⟩
 unfold Builtin.«object.__class__»
   shownTypeOf
 (repeat lk); exact q
theorem class_call {tk : Tok} {R : Result → Shared → Prop} (c : ExcCls K D) (X : K.In s.heap) (p : ClsAt s.heap x D) (q : R (.ok (.ret (.ref D))) s) :
   codeAny (model prog w) A (.call (.builtin "BaseException.__getattribute__") ⟨[.ref x, .str "__class__" tk], []⟩) R s := by
 obtain ⟨hh, g, d, t, os⟩ := s
 obtain ⟨o, eo, ec⟩ := id p
 have t0 := p.type (M := model prog w)
 have lb := looks_mroIn (M := model prog w) X c.mb
 have f0 := looks_data (x := x) (M := model prog w) X c.ha c.hn c.tk
 have hk : builtinKind "BaseException.__getattribute__" = some .slot := by symm
 have hsplit : splitId "BaseException.__getattribute__" = some ("BaseException", "__getattribute__") := by symm
 have ha := F.args_bexc_ga (.ref x) (.str "__class__" tk)
 refine codeAny_call_builtin F.excAttr_ValueError.ga.plain F.entry_bexc_ga ?_
 simp only [checkBuiltinCall, hk, hsplit]
 unfold isInstance
 refine wpAny_bind ?_
 (repeat (first | (with_reducible refine wpAny_call (class_get c X p ?_)) | lk))
 exact q
theorem class_of {Q : Option Value → Shared → Prop} (c : ExcCls K D) (X : K.In s.heap) (p : ClsAt s.heap x D) (q : Q (some (.ref D)) { s with toks := s.toks + 1 }) : wpAny (model prog w) A (getAttr? (.ref x) "__class__") Q E s := by
 obtain ⟨hh, g, d, t, os⟩ := s
 obtain ⟨o, eo, ec⟩ := id p
 have t0 := p.type (M := model prog w)
 have t1 := looks_findIn (M := model prog w) X c.ga
 have f1 := looks_findIn (M := model prog w) X c.gk
 have f3 := F.excAttr_ValueError.ga.bind (.ref x)
 unfold getAttr? getAttrBy? getAttrBy
 refine wpAny_bind (wpAny_mkText (wpAny_bind (wpAny_attempt (wpAny_holding (wpAny_bind (t0.at (wpAny_bind (t1.at ?_))))))))
 show wpAny _ _ (getAttrByItsOwn _ _ _ _ _ _) _ _ _
 unfold getAttrByItsOwn hookBefore
 refine wpAny_bind (f1.at (wpAny_bind (wpAny_attempt (wpAny_holding ?_))))
 show wpAny _ _ (boundAndCalled _ _ _) _ _ _
 unfold boundAndCalled
 rw [f3]
 refine wpAny_bind (wpAny_pure (wpAny_call ?_))
 refine class_call c (s := ⟨hh, g, d, t + 1, os⟩) X p ?_
 exact wpAny_pure (wpAny_pure q)
theorem kit_exc (c : ExcCls K D) : KitX K (.ref x) (.ref D) (fun h => ClsAt h x D) where
 ty := fun _ _ _ p => p.type
 it := fun _ _ X _ => by
   obtain ⟨cd, e⟩ := Option.isSome_iff_exists.mp c.cl
   unfold clsIn at e
   split at e
   · rename_i c' d' cd' sl' ho
     intro A' Q' E' s' k q
     unfold isType loadHead
     exact wpAny_bind (wpAny_loadPart (k _ _ (X _ _ ho)) (wpAny_pure q))
   · cases e
 ne := fun h tp dd its n sl X htp => by
   obtain ⟨cd, e⟩ := Option.isSome_iff_exists.mp c.cl
   refine Bool.eq_false_iff.mpr fun q => ?_
   have z : D = tp := Value.ref.inj (beq_iff_eq.mp q)
   subst z
   unfold clsIn at e
   split at e
   · rename_i c' d' cd' sl' ho
     have z := (X _ _ ho).symm.trans htp
     cases z
   · cases e
 ca := fun X p k => class_of c X p k
end
def excO (a D : Addr) : HO := .ext fun h => ClsAt h a D
def excD (a D dx : Addr) : HO := .ext fun h => ∃ o, h.get? a = some o ∧ o.cls = .ref D ∧ o.dict = some dx ∧ ∃ vs, o.data = .fields vs
def excA (a D : Addr) : Option Addr → HO
 | none => excO a D
 | some dx => excD a D dx
inductive TyE (K : PySem.W.Frag) (H : Hp) : V → Value → Prop where
 | old {x : V} {t : Value} (h : TyOf K H x t) : TyE K H x t
 | exc {a D : Addr} (h : H a = some (excO a D)) (c : ExcCls K D) : TyE K H (.ref a) (.ref D)
 | tpl {a : Addr} {xs : List V} (h : SqT K H a xs) : TyE K H (.ref a) (.type "tuple")
 | excd {a D dx : Addr} (h : H a = some (excD a D dx)) (c : ExcCls K D) : TyE K H (.ref a) (.ref D)
def vVal : V → Value
 | .ref a => .ref a
 | .ty n => .type n
 | _ => .none
def isCls : V → Bool
 | .ref _ => true
 | .ty _ => true
 | _ => false
section
variable {X : Cx} {pins : List (Addr × Obj)} {σ : St} {H : Hp} {s : Shared} {A : Around} {E : Value → Shared → Prop} {Q : Value → Shared → Prop} {c : Value} {b : Bool}
theorem kit_of {x : V} {u t : Value} (I : Inv X pins σ H s) (rx : RelV x u) (ty : TyE X.K H x t) : (∃ P : Heap → Prop, KitX X.K u t P ∧ P s.heap) ∧ u ≠ .builtin "__main__.__loader__#opaque" := by
 cases ty with
 | @tpl a xs h =>
   cases (show u = Value.ref a from rx)
   obtain ⟨its, r, pl, hz⟩ := I.tuple h
   obtain ⟨o, h1, h2, _⟩ := pl
   exact ⟨⟨_, kitx_tuple, ⟨o, h1, h2⟩⟩, fun z => nomatch z⟩
 | old ty =>
   cases ty with
   | non => cases (show u = Value.none from rx); exact ⟨⟨_, kitx_none, True.intro⟩, fun z => nomatch z⟩
   | bl y => cases (show u = Value.bool y from rx); exact ⟨⟨_, kitx_bool, True.intro⟩, fun z => nomatch z⟩
   | int i => obtain ⟨t, q⟩ := (show ∃ t, u = Value.int i t from rx); cases q; exact ⟨⟨_, kitx_int, True.intro⟩, fun z => nomatch z⟩
   | str y => obtain ⟨t, q⟩ := (show ∃ t, u = Value.str y t from rx); cases q; exact ⟨⟨_, kitx_str, True.intro⟩, fun z => nomatch z⟩
   | flt y => obtain ⟨t, q⟩ := (show ∃ t, u = Value.float y t from rx); cases q; exact ⟨⟨_, kitx_float, True.intro⟩, fun z => nomatch z⟩
   | @lst a xs ea =>
     cases (show u = Value.ref a from rx)
     obtain ⟨_, _, n, _, h1⟩ := (show ObjOk X.prog X.w H s.heap a (.lst xs) from I.hok a _ ea)
     exact ⟨⟨_, kitx_list, ⟨_, h1, rfl⟩⟩, fun z => nomatch z⟩
   | @frz a ob xs ea =>
     cases (show u = Value.ref a from rx)
     obtain ⟨_, _, _, n, _, h1⟩ := (show ObjOk X.prog X.w H s.heap a (.frz ob (.lst xs)) from I.hok a _ ea)
     exact ⟨⟨_, kitx_list, ⟨_, h1, rfl⟩⟩, fun z => nomatch z⟩
   | @tup a xs ea =>
     cases (show u = Value.ref a from rx)
     obtain ⟨_, _, _, p⟩ := (show ObjOk X.prog X.w H s.heap a (.tup xs) from I.hok a _ ea)
     obtain ⟨o, h1, h2, _⟩ := p
     exact ⟨⟨_, kitx_tuple, ⟨o, h1, h2⟩⟩, fun z => nomatch z⟩
   | @dK a kvs ea =>
     cases (show u = Value.ref a from rx)
     obtain ⟨_, _, vs, _, p⟩ := (show ObjOk X.prog X.w H s.heap a (.dK kvs) from I.hok a _ ea)
     obtain ⟨o, es, ep, h1, h2, _⟩ := p
     exact ⟨⟨_, kitx_dict, ⟨o, h1, h2.1⟩⟩, fun z => nomatch z⟩
   | @dT a kvs ea =>
     cases (show u = Value.ref a from rx)
     obtain ⟨_, _, xs, _, o, es, ep, h1, h2, _⟩ := (show ObjOk X.prog X.w H s.heap a (.dT kvs) from I.hok a _ ea)
     exact ⟨⟨_, kitx_dict, ⟨o, h1, h2.1⟩⟩, fun z => nomatch z⟩
   | @ins a C dx fs ea cl ha hn htk hm =>
     cases (show u = Value.ref a from rx)
     obtain ⟨mA, O, _⟩ := ins_get I.hok ea
     obtain ⟨od, J, _⟩ := O.look
     exact ⟨⟨_, kitx_own (cl.get _) cl.hd ha hn htk hm, J⟩, fun z => nomatch z⟩
 | @exc a D h c =>
   cases (show u = Value.ref a from rx)
   obtain ⟨p, _⟩ := (show ObjOk X.prog X.w H s.heap a (excO a D) from I.hok a _ h)
   exact ⟨⟨_, kit_exc c, p⟩, fun z => nomatch z⟩
 | @excd a D dx h c =>
   cases (show u = Value.ref a from rx)
   obtain ⟨⟨o, e, k, _⟩, _⟩ := (show ObjOk X.prog X.w H s.heap a (excD a D dx) from I.hok a _ h)
   exact ⟨⟨_, kit_exc c, ⟨o, e, k⟩⟩, fun z => nomatch z⟩
theorem vVal_rel {x : V} {u : Value} (h : isCls x = true) (r : RelV x u) : u = vVal x := by
 cases x with
 | ref a => exact r
 | ty n => exact r
 | _ => cases h
theorem vVals_rel : ∀ {xs : List V} {us : List Value}, xs.all isCls = true → Vals xs us → us = xs.map vVal
 | [], _, _, .nil => rfl
 | x :: xs, _, h, .cons r rs => by
   rw [List.all_cons, Bool.and_eq_true] at h
   rw [vVal_rel h.1 r, vVals_rel h.2 rs]; rfl
theorem yK : CallR X (.builtin "isinstance") (fun xs H Q => ∃ x y t b, xs = [x, y] ∧ isCls y = true ∧ TyE X.K H x t ∧ PySem.W.kitOne X.K t (vVal y) = some b ∧ Q (.bl b) H) := by
 intro pins s σ H xs us Q I r h
 obtain ⟨x, y, t, b, rfl, hc, ty, e, q⟩ := h
 obtain ⟨u, w', rfl, rx, ry⟩ := vals2 r
 obtain rfl := vVal_rel hc ry
 obtain ⟨⟨P, Z, p⟩, nb⟩ := kit_of I rx ty
 exact kia_one Z I.kIn p e nb fun tk => ⟨.bl b, H, I.tok _, rfl, q⟩
theorem call_isiT : CallR X (.builtin "isinstance") (fun xs H Q => ∃ x tp cs t b, xs = [x, .ref tp] ∧ H tp = some (.tup cs) ∧ cs.all isCls = true ∧ TyE X.K H x t ∧ PySem.W.kitAny X.K t (cs.map vVal) = some b ∧ Q (.bl b) H) := by
 intro pins s σ H xs us Q I r h
 obtain ⟨x, tp, cs, t, b, rfl, ht, hc, ty, e, q⟩ := h
 obtain ⟨u, w', rfl, rx, ry⟩ := vals2 r
 cases ry
 obtain ⟨⟨P, Z, p⟩, nb⟩ := kit_of I rx ty
 obtain ⟨_, its, rv, o, ho, hcl, n, hd⟩ := (show ObjOk X.prog X.w H s.heap tp (.tup cs) from I.hok tp _ ht)
 obtain rfl := vVals_rel hc rv
 obtain ⟨oc, od, oda, osl⟩ := o
 dsimp only at hcl hd
 subst hcl hd
 exact kia_tup Z I.kIn p ho e nb fun tk => ⟨.bl b, H, I.tok _, rfl, q⟩
end
end L2
namespace L2
open PySem PySem.Spec PyProof.Rows PySem.Calls PySem.W
abbrev mroVE : List Value := [.type "ValueError", .type "Exception", .type "BaseException", .type "object"]
section
variable {P : Program} {w : World} {K : PySem.W.Frag} {mg : Str → Option Value} {base : Heap} {N : List Str} {qual : Str} {scope : Scope} {f : Addr} {cdv : Value} {A : Around} {outer : List Env} {s : Shared} {H : Hp} {E : XK}
end
def CXAt (X : Cx) (pins : List (Addr × Obj)) (σ : St) (E : XK) (e : Value) (s' : Shared) : Prop := ∃ H1 s1, Inv X pins σ H1 s1 ∧ CXW X.prog X.w X.stack H1 s1 E e s'
abbrev TEx := St → Hp → VK → XK → Prop
abbrev TSx := Ends → (St → XK) → St → Hp → Prop
def PEx (X : Cx) (e : Expr) (t : TEx) : Prop :=
 ∀ (pins : List (Addr × Obj)) (s : Shared) (σ : St) (H : Hp) (Q : VK) (E : XK), Inv X pins σ H s → t σ H Q E → wpAny (model X.prog X.w) X.A (eval e X.env) (EP X pins σ Q) (CXAt X pins σ E) s
def PSx (X : Cx) (st : Stmt) (t : TSx) : Prop :=
 ∀ (pins : List (Addr × Obj)) (s : Shared) (σ : St) (H : Hp) (D : Ends) (E : St → XK), Inv X pins σ H s → t D E σ H → wpAny (model X.prog X.w) X.A (exec st X.env) (SP X pins D) (fun e s' => ∃ σ', CXAt X pins σ' (E σ') e s') s
def PSsx (X : Cx) (st : List Stmt) (t : TSx) : Prop :=
 ∀ (pins : List (Addr × Obj)) (s : Shared) (σ : St) (H : Hp) (D : Ends) (E : St → XK), Inv X pins σ H s → t D E σ H → wpAny (model X.prog X.w) X.A (execs st X.env) (SP X pins D) (fun e s' => ∃ σ', CXAt X pins σ' (E σ') e s') s
section
variable {X : Cx} {k : Nat} {f C : Addr} {fd : FuncData} {ps : List Str} {sp : Sp} {dvs : List V} {ds : List Value} {x m : Str} {p pos apos : Pos} {e o : Expr} {es : List Expr} {ta : TE} {t : TA}
theorem PA.nox {es : List Expr} {t : TA} (h : PA X.nox es t) (E : Value → Shared → Prop) {pos : Pos} {pins : List (Addr × Obj)} {s : Shared} {σ : St} {H : Hp} {Q : List V → Hp → Prop} (I : Inv X pins σ H s) (q : t σ H Q) :
   wpAny (model X.prog X.w) X.A (spliced (backTo pos (starEach es X.env))) (AP X pins σ Q) E s :=
 wpAny_mono (h pos pins s σ H Q (I.wish _) q) (fun _ _ ⟨vs, H', I', r, q⟩ => ⟨vs, H', I'.unwish, r, q⟩) fun _ _ z => False.elim z
theorem run_fnx {pins : List (Addr × Obj)} {σ : St} {H : Hp} {s : Shared} {Q : VK} {E : XK} {us : List Value} {vs : List V} (F : FnOk X.prog X.w X.K X.mg X.base (CXW X.prog X.w) k f fd ps sp) (hr : Room k X.A) (hb : Binds X.K fd ps ds) (hd : Vals dvs ds)
   (I : Inv X pins σ H s) (r : Vals vs us) (h : sp (vs ++ dvs) H Q E) : wpAny (model X.prog X.w) X.A (call (.ref f) us) (EP X pins σ Q) (CXAt X pins σ E) s := by
 have r2 : Vals (vs ++ dvs) (us ++ ds) := r.append hd
 have hl : (us ++ ds).length = ps.length := by rw [← r2.length]; exact F.len _ _ _ _ h
 refine wpAny_call (codeAny_mono (F.run X.A X.stack s H ⟨us, []⟩ (us ++ ds) (vs ++ dvs) Q E hr I.env0 (hb s us I.kIn hl) r2 h) fun r s' hq => ?_)
 cases r with
 | error e => exact ⟨H, s, I, hq⟩
 | ok fl =>
   cases fl with
   | ret u => exact I.after hq
   | next => exact False.elim hq
   | brk => exact False.elim hq
   | cont => exact False.elim hq
def tCallX (sp : Sp) (dvs : List V) (t : TA) : TEx := fun σ H Q E => t σ H fun vs H1 => sp (vs ++ dvs) H1 Q E
theorem pex_call (F : FnOk X.prog X.w X.K X.mg X.base (CXW X.prog X.w) k f fd ps sp) (hr : Room k X.A) (hg : Gl X x) (hm : X.mg x = some (.ref f)) (hk : PySem.W.keepIn X.K (.ref f) = true) (hb : Binds X.K fd ps ds) (hd : Vals dvs ds)
   (ha : PA X.nox (e :: es) t) (hdb : (x == ("__debug__" : Str)) = false := by decide) (he : starEach (e :: es) X.env = (false, eval e X.env) :: starEach es X.env := by rfl) (hpl : (backTo pos (starEach es X.env)).any (·.1) = false := by rfl) :
   PEx X (.Call (.Name x p) (e :: es) [] pos) (tCallX sp dvs t) := by
 intro pins s σ H Q E I h
 refine wpAny_Call_Name_kw (xO I hg hm ?_ hdb)
 refine PySem.W.callWith_K (h₀ := X.base) I.ok.mod.kin hk (wpAny_mono (ha.nox (CXAt X pins σ E) I h) (fun us s1 ⟨vs, H1, I1, r, q⟩ => ⟨I1.kIn, ?_⟩) fun _ _ z => z) he hpl
 exact run_fnx F hr hb hd I1 r q
def tSetX (i : Nat) (te : TEx) : TSx := fun D E σ H => te σ H (fun v H1 => D.nx (σ.set i (some v)) H1) (E σ)
theorem psx_set {i : Nat} {x : Str} {e : Expr} {te : TEx} {pos' : Pos} (hN : X.N.Nodup) (hi : X.N[i]? = some x) (hx : Loc X.env.scope x) (he : PEx X e te) (hs : swapsWith e (some (.Name x pos')) pos.line X.env = pure false := by rfl)
   (hf : X.fn x = true ∨ X.env.scope.names.lookup x = some .local := by first | exact .inl rfl | exact .inr rfl | assumption) : PSx X (.Assign [.Name x pos'] e pos) (tSetX i te) := by
 intro pins s σ H D E I h
 refine wpAny_Assign_Name (wpAny_mono (he pins s σ H _ _ I h) (fun v s1 ⟨y, H1, I1, r1, q1⟩ => ?_) fun e s' z => ⟨σ, z⟩) hs
 exact store_ok I1 hN hi hx r1 (fun s2 I2 => ⟨_, H1, I2, q1⟩) hf
theorem psx_one {st : Stmt} {t : TSx} (h1 : PSx X st t) : PSsx X [st] t := by
 intro pins s σ H D E I h
 refine wpAny_execs_cons (wpAny_mono (h1 pins s σ H D E I h) (fun f s1 q => ?_) fun _ _ z => z)
 cases f with
 | next => exact wpAny_execs_nil q
 | ret v => exact q
 | brk => exact q
 | cont => exact q
end
def hcx (X : Cx) (e : Addr) : Cx := { X with A := X.A.mark (some (.ref e)), calm := false, xe := fun _ _ => False }
theorem hcx_in {X : Cx} {e : Addr} {pins : List (Addr × Obj)} {σ : St} {H : Hp} {s : Shared} (I : Inv X pins σ H s) : Inv (hcx X e) pins σ H s := by
 obtain ⟨ok, os, bare, bs, loc, cell, free, freeC, pin, hok, len⟩ := I
 exact ⟨⟨ok.mod, ok.kind, ok.glob, ok.blt, ok.above, ok.inj, ok.has, ok.cab, fun z => Bool.noConfusion (show false = true from z), ok.frames, ok.stk, ok.exf, ok.bs, ok.bsz, ok.noex, ok.exfs, ok.funs, ok.frf⟩, os, bare, bs, loc, cell, free, freeC, pin, hok, len⟩
theorem hcx_out {X : Cx} {e : Addr} (ok : X.Ok) {pins : List (Addr × Obj)} {σ : St} {H : Hp} {s : Shared} (I : Inv (hcx X e) pins σ H s) : Inv X pins σ H s := by
 obtain ⟨_, os, bare, bs, loc, cell, free, freeC, pin, hok, len⟩ := I
 exact ⟨ok, os, bare, bs, loc, cell, free, freeC, pin, hok, len⟩
theorem hcx_sp {X : Cx} {e : Addr} (ok : X.Ok) {pins : List (Addr × Obj)} {D : Ends} {f : Flow} {s : Shared} (h : SP (hcx X e) pins D f s) : SP X pins D f s := by
 cases f with
 | next => obtain ⟨σ', H', I, q⟩ := h; exact ⟨σ', H', hcx_out ok I, q⟩
 | brk => obtain ⟨σ', H', I, q⟩ := h; exact ⟨σ', H', hcx_out ok I, q⟩
 | cont => obtain ⟨σ', H', I, q⟩ := h; exact ⟨σ', H', hcx_out ok I, q⟩
 | ret u => obtain ⟨v, σ', H', I, r, q⟩ := h; exact ⟨v, σ', H', hcx_out ok I, r, q⟩
section
variable {X : Cx} {body suite : List Stmt} {b₀ : Stmt} {x : Str} {C : Addr} {np hpos pos : Pos} {tb : TSx} {th : TS}
end
end L2
namespace L2
open PySem PySem.Spec PyProof.Rows PySem.Calls PySem.W
section
variable {X : Cx} {pins : List (Addr × Obj)} {σ : St} {H : Hp} {s : Shared}
theorem Inv.trackN {a : Addr} {o : HO} (I : Inv X pins σ H s) (f0 : H a = none) (old : ∀ b ob, X.s₀.heap.get? b = some ob → b ≠ a) (f1 : X.env.locals ≠ a) (f4 : ∀ x c, X.env.cells.lookup x = some c → c ≠ a) (f5 : ∀ p ∈ X.pn ++ pins, p.1 ≠ a)
   (new : ObjOk X.prog X.w (upd H a o) s.heap a o) : Inv X pins σ (upd H a o) s := by
 refine ⟨I.ok, I.os, I.bare, ⟨I.base.keep, I.base.slot, fun b ob e n hx => ?_, I.base.there, fun b xs e => ?_, fun b ob u e => ?_, fun b ps e => ?_⟩, I.loc, I.cell, ?_, fun x c e => ?_, fun p hp => ?_, fun b u e => ?_, I.len⟩
 · rw [zK (old b ob e)]; exact I.base.free b ob e n hx
 · have q := I.base.tups b xs e; rw [zK (zI q f0)]; exact q
 · have q := I.base.frzs b ob u e; rw [zK (zI q f0)]; exact q
 · obtain ⟨more, q⟩ := I.base.tbls b ps e; exact ⟨more, by rw [zK (zI q f0)]; exact q⟩
 · rw [zK f1]; exact I.free
 · rw [zK (f4 x c e)]; exact I.freeC x c e
 · obtain ⟨e, n, ne, nf, d⟩ := I.pin p hp
   exact ⟨e, by rw [zK (f5 p hp)]; exact n, ne, nf, d⟩
 · by_cases hb : b = a
   · subst hb; rw [zB] at e; cases e; exact new
   · rw [zK hb] at e
     exact (I.hok b u e).stay (fun c v _ q => q) (fun c q => by rw [zK (zI q f0)]; exact q) fun c xs q => by rw [zK (zI q f0)]; exact q
theorem name_gone {M : Model} {A : Around} {E : Value → Shared → Prop} {j : Nat} {n : Str} {pos : Pos} {Q : Unit → Shared → Prop} (I : Inv X pins σ H s) (hN : X.N.Nodup) (hj : X.N[j]? = some n) (hl : X.env.scope.names.lookup n = some .local)
   (h : ∀ s', Inv X pins (σ.set j none) H s' → Q () s') : wpAny M A (do bindName X.env n .none; unbindBehindTheSuite X.env n pos) Q E s := by
 obtain ⟨m, hn, lo⟩ := id I.loc
 have hjσ : j < σ.length := by rw [I.len]; exact (List.getElem?_eq_some_iff.mp hj).1
 refine wpAny_nameGoes_keeps hl hn (by rw [I.ok.kind]; rfl) fun h' v hn' sb => h _ ?_
 have cne := I.cne
 have ltL : ∀ b o, X.s₀.heap.get? b = some o → b ≠ X.env.locals := fun b o e => Nat.ne_of_lt (Nat.lt_of_lt_of_le (Heap.lt_size e) I.ok.above)
 refine ⟨I.ok, I.os, I.bare, ⟨fun b o e n hb hx => ?_, fun b o e n hb hx => ?_, I.base.free, fun b o e hx => ?_, I.base.tups, I.base.frzs, I.base.tbls⟩, ⟨_, hn', fun i y v' e1 e2 e3 => ?_⟩, fun y c e => ?_, I.free, I.freeC, fun p hp => ?_, fun b ob e => ?_, ?_⟩
 · exact (sb.2 b (ltL b o e)).trans (I.base.keep b o e n hb hx)
 · obtain ⟨sl, q⟩ := I.base.slot b o e n hb hx
   exact ⟨sl, (sb.2 b (ltL b o e)).trans q⟩
 · obtain ⟨o', q⟩ := I.base.there b o e hx
   exact ⟨o', (sb.2 b (ltL b o e)).trans q⟩
 · by_cases hij : i = j
   · subst hij
     rw [List.getElem?_set_self hjσ] at e2
     cases e2
   · rw [List.getElem?_set_ne (Ne.symm hij)] at e2
     obtain ⟨u', r', q⟩ := lo i y v' e1 e2 e3
     refine ⟨u', r', ?_⟩
     rcases q with ⟨k, e⟩ | ⟨k, c, e, z⟩
     · refine .inl ⟨k, ?_⟩
       have hy : y ≠ n := fun e => hij (nodup_ix hN e1 (e ▸ hj))
       simp [hy, e]
     · exact .inr ⟨k, c, e, z.sameBut sb (cne y c e)⟩
 · obtain ⟨w', z⟩ := I.cell y c e
   exact ⟨w', z.sameBut sb (cne y c e)⟩
 · obtain ⟨e, n, ne, nf, d⟩ := I.pin p hp
   exact ⟨(sb.2 p.1 ne).trans e, n, ne, nf, d⟩
 · refine (I.hok b ob e).stay (fun c w' hc q => (sb.2 c ?_).trans q) (fun _ q => q) fun _ _ q => q
   rintro rfl
   rcases hc with z | z
   · rw [← z, I.free] at e; cases e
   · rw [I.free] at z; cases z
 · rw [List.length_set]; exact I.len
end
section
variable {X : Cx} {body suite : List Stmt} {b₀ : Stmt} {x n : Str} {C : Addr} {np hpos pos : Pos} {tb : TSx} {th : TS} {j : Nat}
def endsAs (D : Ends) (j : Nat) : Ends := { nx := fun σ H => D.nx (σ.set j none) H, rt := D.rt, bk := fun σ H => D.bk (σ.set j none) H, ct := fun σ H => D.ct (σ.set j none) H }
def tTryAs (K : PySem.W.Frag) (C : Addr) (j : Nat) (tb : TSx) (th : TS) : TS := fun D σ H => tb D (fun σ' cls dct H' => ∃ G : Addr, cls = .ref G ∧ PySem.W.exmOne K cls (.ref C) = some true ∧ ∀ ea, H' ea = none → th (endsAs D j) (σ'.set j (some (.ref ea))) (upd H' ea (excA ea G dct))) σ H
theorem ps_tryAs (hN : X.N.Nodup) (hj : X.N[j]? = some n) (hl : X.env.scope.names.lookup n = some .local) (hex : X.ex = []) (hst : X.stack = X.env :: X.outer) (hfr : X.env.frame = some X.env.locals) (hb : PSsx X body tb) (hg : Gl X x) (hm : X.mg x = some (.ref C))
   (hh : ∀ ea, PSs (hcx X ea) (b₀ :: suite) th) (hd : (x == ("__debug__" : Str)) = false := by decide) :
   PS X (.Try body [.ExceptHandler (some (.Name x np)) (some n) (b₀ :: suite) hpos] [] [] pos) (tTryAs X.K C j tb th) := by
 intro pins s σ H D I h
 refine wpAny_Try_except (wpAny_mono (hb pins s σ H D _ I h) (fun f s1 q => ?_) fun e s1 q => ?_)
 · cases f with
   | next => exact wpAny_execs_nil q
   | ret v => exact q
   | brk => exact q
   | cont => exact q
 · obtain ⟨σ', H1, s2, I1, ea, cls, dct, H', B, rfl, fl, os, bare, hok, xu, G, rfl, hx, q⟩ := q
   rw [hst] at fl
   have back : ∀ (h' : Heap) (tk : Nat), B.StaysIn h' → h'.FunFrames B X.stack → XUn X.stack H1 H' s2.heap B h' → Inv X pins σ' H' { s1 with heap := h', toks := tk } := fun h' tk st fr xu' =>
     I1.call' (ch := []) os (xu'.un st fr) (hok.kept st) bare fun b z => nomatch z
   have fr0 : s1.heap.FunFrames B X.stack := by rw [hst]; exact fl.2.2.1
   refine noteOnD (by rw [I.ok.frames, hst]) hfr fl fun h4 held4 up4 => ?_
   have x4 := xu.step fr0 up4
   refine flightD held4 fun h5 fl5 up5 => ?_
   have fr4 : h4.FunFrames B X.stack := by rw [hst]; exact held4.2.2.1
   have x5 := x4.step fr4 up5
   have fr5 : h5.FunFrames B X.stack := by rw [hst]; exact fl5.2.2.1
   have I5 : Inv X pins σ' H' { s1 with heap := h5 } := back h5 s1.toks fl5.1 fr5 x5
   obtain ⟨ob, hob, hobc, -⟩ := fl5.there
   have LT : Looks (model X.prog X.w) h5 (typeOf (.ref ea)) (.ref G) := hobc ▸ (Looks.ld hob).andThen .now
   refine wpAny_handleBy_cons (codeAny_handlers_test ?_) (by intro z; cases z)
   have ld := fun Q E q => xO (X := hcx X ea) (pos := np) (Q := Q) (E := E) (hcx_in I5) hg hm q hd
   refine ld _ _ ?_
   refine (exm_one (M := model X.prog X.w) I5.kIn LT hx).here ?_
   refine codeAny_handlers_suite_as ?_
   refine flightD fl5 fun h6 fl6 up6 => ?_
   have x6 := x5.step fr5 up6
   have fr6 : h6.FunFrames B X.stack := by rw [hst]; exact fl6.2.2.1
   have I6 : Inv X pins σ' H' { s1 with heap := h6 } := back h6 s1.toks fl6.1 fr6 x6
   obtain ⟨oe, eoe, coe, dcoe, vs, doe⟩ := fl6.there
   have nee : ∀ b o, s2.heap.get? b = some o → b ≠ ea := fun b o e z => by
     subst z
     by_cases hbf : b ∈ frs X.stack
     · obtain ⟨_, o', ho', hd'⟩ := fr6.mem hbf
       rw [eoe] at ho'; cases ho'
       exact hd' vs doe
     · obtain ⟨o', q'⟩ := xu.thereB b o e hbf
       rw [fl6.2.1] at q'; cases q'
   have fe : H' ea = none := by
     cases z : H' ea with
     | none => rfl
     | some u =>
       have lt := hok ea u z
       exact absurd lt fun lt => by
         have q' : ∃ o, B.get? ea = some o := by
           cases u with
           | lst xs => obtain ⟨_, _, _, _, e⟩ := lt; exact ⟨_, e⟩
           | tup xs => obtain ⟨_, _, _, o, e, _⟩ := lt; exact ⟨_, e⟩
           | dK kvs => obtain ⟨_, _, _, _, o, _, _, e, _⟩ := lt; exact ⟨_, e⟩
           | dT kvs => obtain ⟨_, _, _, _, o, _, _, e, _⟩ := lt; exact ⟨_, e⟩
           | set S n => obtain ⟨o, _, _, _, e, _⟩ := lt; exact ⟨_, e⟩
           | ins C dx fs => obtain ⟨_, _, _, e, _⟩ := lt; exact ⟨_, e⟩
           | own y => exact lt
           | xd fs => obtain ⟨_, ⟨o, _, _, e, _⟩, _⟩ := lt; exact ⟨_, e⟩
           | rng lo hi => obtain ⟨_, _, _, e⟩ := lt; exact ⟨_, e⟩
           | frz o u => exact ⟨_, lt.1⟩
           | tbl ps => exact ⟨_, lt⟩
           | met f y => exact ⟨_, lt⟩
           | ext φ => exact lt.2.1
         obtain ⟨o, q'⟩ := q'
         rw [fl6.2.1] at q'; cases q'
   have I7 : Inv X pins σ' (upd H' ea (excA ea G dct)) { s1 with heap := h6 } := by
     refine I6.trackN fe (fun b ob' e z => ?_) (fun z => ?_) (fun y c e z => ?_) (fun p hp z => ?_) (by
       cases dct with
       | none => exact ⟨⟨oe, eoe, coe⟩, ⟨oe, eoe⟩, fun h1 h2 ⟨o, e, c⟩ k => ⟨o, k o e, c⟩⟩
       | some dx => exact ⟨⟨oe, eoe, coe, dcoe, vs, doe⟩, ⟨oe, eoe⟩, fun h1 h2 ⟨o, e, c⟩ k => ⟨o, k o e, c⟩⟩)
     · obtain ⟨o', e'⟩ := I1.base.there b ob' e (by rw [hex]; exact fun z => nomatch z)
       exact nee b o' e' z
     · obtain ⟨m, ⟨o, _, _, e, _⟩, _⟩ := I1.loc
       exact nee _ o e z
     · obtain ⟨v, o, e', _⟩ := I1.cell y c e
       exact nee c o e' z
     · exact nee p.1 p.2 (I1.pin p hp).1 z
   refine store_ok (X := hcx X ea) (v := .ref ea) (hcx_in I7) hN hj (.inl hl) rfl (fun s8 I8 => ?_) (.inr hl)
   refine wpAny_mono (hh ea pins s8 _ _ (endsAs D j) I8 (q ea fe)) (fun f s9 q9 => ?_) fun _ _ z => (show False from z).elim
   have q9 := hcx_sp I.ok q9
   cases f with
   | next => obtain ⟨σ9, H9, I9, q9⟩ := q9; exact name_gone I9 hN hj hl fun s' I' => ⟨_, H9, I', q9⟩
   | brk => obtain ⟨σ9, H9, I9, q9⟩ := q9; exact name_gone I9 hN hj hl fun s' I' => ⟨_, H9, I', q9⟩
   | cont => obtain ⟨σ9, H9, I9, q9⟩ := q9; exact name_gone I9 hN hj hl fun s' I' => ⟨_, H9, I', q9⟩
   | ret u => obtain ⟨v, σ9, H9, I9, r9, q9⟩ := q9; exact name_gone I9 hN hj hl fun s' I' => ⟨v, _, H9, I', r9, q9⟩
end
end L2
namespace L2
open PySem PySem.Spec PyProof.Rows PySem.Calls
section
variable {X : Cx}
def repN (l : List Nat) : Nat → List Nat
 | 0 => []
 | k + 1 => repN l k ++ l
theorem repN_len (l : List Nat) : ∀ k, (repN l k).length = k * l.length
 | 0 => by simp [repN]
 | k + 1 => by rw [repN, List.length_append, repN_len l k, Nat.succ_mul]
theorem rep_is (x : Str) (k : Nat) : (⟨(List.replicate k x.cps).foldl (· ++ ·) #[]⟩ : Str) = S (repN (cd x) k) := by
 have g : ∀ k, (List.replicate k x.cps).foldl (· ++ ·) #[] = (repN (cd x) k).toArray := fun k => by
   induction k with
   | zero => rfl
   | succ k ih => rw [List.replicate_succ', List.foldl_append, ih]; show _ ++ x.cps = _; rw [repN]; apply Array.ext'; simp [cd]
 rw [g]; rfl
theorem op_mul_str : OpR X (binaryOp .Mult) (fun x y H Q => ∃ z n, x = .str z ∧ y = .int n ∧ 0 ≤ n ∧ n ≤ 1000000 ∧ z.length * n.toNat ≤ 1000000 ∧ z.length ≤ 1000000 ∧ Q (.str (S (repN (cd z) n.toNat))) H) := by
 intro pins s σ H x y v u Q I rx ry h
 obtain ⟨z, n, rfl, rfl, h0, h1, h2, h3, q⟩ := h
 obtain ⟨t, rfl⟩ := rx
 obtain ⟨t', rfl⟩ := ry
 have tl : Builtin.Str.tooLong (z.length * n.toNat) = false := by
   unfold Builtin.Str.tooLong
   exact decide_eq_false (by rw [sizeLine_eq]; omega)
 refine P.mul_str ?_ ?_ (fun _ _ => tl) ?_
 · rw [decide_eq_false (by omega), decide_eq_false (by omega)]; rfl
 · intro hn _ hgt
   have : (2 ^ 63 - 1 : Int) / n ≥ 1000000 := by
     have : (1000000 : Int) * n ≤ 2 ^ 63 - 1 := by omega
     exact Int.le_ediv_of_mul_le (by omega) this
   omega
 · have fin : ∀ y : Str, y = S (repN (cd z) n.toNat) → ∀ t tk, EP X pins σ Q (.str y t) { s with toks := tk } := fun y e t tk => by
     subst e; exact ⟨.str _, H, I.tok _, ⟨_, rfl⟩, q⟩
   by_cases hn : n < 1
   · rw [if_pos hn]
     have e0 : n = 0 := by omega
     subst e0
     exact ⟨by rw [sizeLine_eq]; exact Nat.zero_le _, fin _ rfl _ _⟩
   · rw [if_neg hn]
     by_cases h1 : (n == 1 || z.length == 0) = true
     · rw [if_pos h1]
       refine fin z ?_ t s.toks
       rcases Bool.or_eq_true_iff.mp h1 with e | e
       · have e' : n = 1 := by simpa using e
         subst e'
         show z = S (repN (cd z) 1)
         rw [show repN (cd z) 1 = cd z from by simp [repN], S_cd]
       · have e' : (cd z) = [] := List.eq_nil_of_length_eq_zero (by rw [← len_cd]; simpa using e)
         have : ∀ k, repN [] k = [] := fun k => by induction k with | zero => rfl | succ k ih => simp [repN, ih]
         rw [e', this, ← e', S_cd]
     · rw [if_neg h1]
       refine ⟨?_, fin _ (rep_is z n.toNat) _ _⟩
       rw [rep_is, len_S, repN_len, ← len_cd, sizeLine_eq, Nat.mul_comm]
       omega
end
end L2
namespace L2
open PySem PySem.Spec PyProof.Rows PySem.Calls
structure FunD (K : PySem.W.Frag) (x qual : Str) (st : Stmt) (ds : List Value) (f : Addr) (fd : FuncData) : Prop where
 ex : ∃ (T : Addr) (oc : Value) (od : Option Addr) (kV doc pm : Value) (an : Option Addr) (cdv ct : Value) (osl : Array (Option Value)) (to : Obj) (n : Nat),
   fd = PySem.W.fnOf x qual (defArgs st) (defBody st) (defScope st) (.ref T) kV doc pm an cdv ct ∧ K.lookup f = some ⟨oc, od, .func fd, osl⟩ ∧ PySem.W.codeIn K cdv qual = true ∧ K.lookup T = some to ∧ to.cls = .type "tuple" ∧ to.data = .seq ds.toArray n
 kp : PySem.W.keepIn K (.ref f) = true
section
variable {P : Program} {w : World} {K : PySem.W.Frag} {mg : Str → Option Value} {base : Heap} {x qual : Str} {st : Stmt} {f : Addr} {fd : FuncData} {N ps : List Str} {k : Nat} {sp : Sp} {ds : List Value}
theorem FunD.okX (F : FunD K x qual st ds f fd) (S : FnScope N ps (defScope st)) (len : ∀ vs H Q E, sp vs H Q E → vs.length = ps.length)
   (hbody : ∀ (cdv : Value) (A : Around) (outer : List Env) (s : Shared) (H : Hp) (vs : List V) (Q : VK) (E : XK), Room k (A.deeper (envOfC qual (defScope st) s.heap.objs.size f cdv)) → sp vs H Q E →
     ∃ t, PSs (cxOf (CXW P w) P w K mg base N qual (defScope st) f cdv A outer s H E) (defBody st) t ∧ t { nx := fun _ H' => Q .non H', rt := Q } (start N vs) H) : FnOk P w K mg base (CXW P w) (k + 1) f fd ps sp := by
 obtain ⟨T, oc, od, kV, doc, pm, an, cdv, ct, osl, to, n, rfl, lk, hcd, _⟩ := F.ex
 exact fn_of lk hcd S len fun A outer s H vs Q E hr hsp => hbody cdv A outer s H vs Q E hr hsp
theorem FunD.ok (F : FunD K x qual st ds f fd) (S : FnScope N ps (defScope st)) (len : ∀ vs H Q E, sp vs H Q E → vs.length = ps.length)
   (hbody : ∀ (cdv : Value) (A : Around) (outer : List Env) (s : Shared) (H : Hp) (vs : List V) (Q : VK) (E : XK), Room k (A.deeper (envOfC qual (defScope st) s.heap.objs.size f cdv)) → sp vs H Q E →
     ∃ t, PSs (cxOf CX0 P w K mg base N qual (defScope st) f cdv A outer s H E).nox (defBody st) t ∧ t { nx := fun _ H' => Q .non H', rt := Q } (start N vs) H) : FnOk P w K mg base CX0 (k + 1) f fd ps sp := by
 obtain ⟨T, oc, od, kV, doc, pm, an, cdv, ct, osl, to, n, rfl, lk, hcd, _⟩ := F.ex
 refine fn_of lk hcd S len fun A outer s H vs Q E hr hsp => ?_
 obtain ⟨t, h, q⟩ := hbody cdv A outer s H vs Q E hr hsp
 exact ⟨t, h.nox, q⟩
theorem FunD.binds {es : List Value} (F : FunD K x qual st ds f fd)
   (h : ∀ (T : Addr) (kV doc pm : Value) (an : Option Addr) (cdv ct : Value) (us : List Value) (M : Model) (A : Around) (E : Value → Shared → Prop) (Q : List (Str × Value) → Shared → Prop) (s : Shared) (to : Obj) (n : Nat), s.heap.get? T = some to → to.cls = .type "tuple" → to.data = .seq ds.toArray n →
     (us ++ es).length = ps.length → Q (ps.zip (us ++ es)) s → wpAny M A (bindArgs (PySem.W.fnOf x qual (defArgs st) (defBody st) (defScope st) (.ref T) kV doc pm an cdv ct) ⟨us, []⟩) Q E s) : Binds K fd ps es := by
 obtain ⟨T, oc, od, kV, doc, pm, an, cdv, ct, osl, to, n, rfl, lk, hcd, lt, tc, td⟩ := F.ex
 intro s us X hl M A E Q q
 exact h T kV doc pm an cdv ct us M A E Q s to n (X _ _ lt) tc td hl q
end
section
variable {K : PySem.W.Frag} {C D : Addr} {cd : ClassData} {r b : Bool} {T : String}
theorem kit_self : PySem.W.kitOne K (.ref D) (.ref D) = some true := by unfold PySem.W.kitOne; rw [if_pos (beq_self_eq_true _)]
theorem kitCls_ref (h1 : PySem.W.clsIn K C = some cd) (h2 : PySem.W.typeIn K (.ref C) = some (.type "type")) (h3 : PySem.W.mroIn K D (.ref C) = some r) : PySem.W.kitCls K (.ref D) (.ref C) = some r := by
 show (if ((PySem.W.clsIn K C).isSome && PySem.W.typeIn K (.ref C) == some (.type "type")) = true then PySem.W.mroIn K D (.ref C) else none) = some r
 rw [h1, h2, h3]; rfl
theorem zR (h1 : PySem.W.clsIn K C = some cd) (h2 : PySem.W.typeIn K (.ref C) = some (.type "type")) (h3 : PySem.W.mroIn K D (.ref C) = some r) (hne : (Value.ref D == Value.ref C) = false) : PySem.W.kitOne K (.ref D) (.ref C) = some r := by
 unfold PySem.W.kitOne
 rw [if_neg (by rw [hne]; decide)]
 exact kitCls_ref h1 h2 h3
theorem kit_rty (hm : PySem.W.kitMeta T = true) (h3 : PySem.W.mroIn K D (.type T) = some r) : PySem.W.kitOne K (.ref D) (.type T) = some r := by
 unfold PySem.W.kitOne
 rw [if_neg (by intro z; cases beq_iff_eq.mp z)]
 show (if PySem.W.kitMeta T = true then PySem.W.mroIn K D (.type T) else none) = some r
 rw [if_pos hm]; exact h3
theorem exm_ref (h0 : PySem.W.subIn K (.ref C) (.type "BaseException") = some true) (h1 : PySem.W.clsIn K C = some cd) (h2 : PySem.W.typeIn K (.ref C) = some (.type "type")) (h3 : PySem.W.mroIn K D (.ref C) = some r) : PySem.W.exmOne K (.ref D) (.ref C) = some r := by
 unfold PySem.W.exmOne
 rw [h0, if_pos (by rfl)]
 exact kitCls_ref h1 h2 h3
theorem excCls_mk (ga : PySem.W.findIn K (.ref D) "__getattribute__" = some (some (.builtin "BaseException.__getattribute__"))) (gk : PySem.W.findIn K (.ref D) "__getattr__" = some none) (cl : PySem.W.clsIn K D = some cd) (ha : PySem.W.findIn K (.ref D) "__class__" = some (some (.builtin "object.__class__")))
   (hn : PySem.W.specialIn K (.builtin "object.__class__") "__get__" = some (some (.builtin "getset_descriptor.__get__"))) (tk : PySem.W.takesIn K (.builtin "object.__class__") = some true) (mo : PySem.W.mroIn K D (.type "object") = some true) (mb : PySem.W.mroIn K D (.type "BaseException") = some true) : ExcCls K D :=
 ⟨ga, gk, by rw [cl]; rfl, ha, hn, tk, mo, mb⟩
theorem app_len {α : Type} {us ds : List α} {n m : Nat} (h : (us ++ ds).length = n) (hm : ds.length + m = n) : us.length = m := by rw [List.length_append] at h; omega
theorem funD_mk {x qual : Str} {st : Stmt} {f T : Addr} {oc : Value} {od an dd : Option Addr} {osl dsl : Array (Option Value)} {kV doc pm cdv ct : Value} {ds : List Value} {n : Nat} (l : K.lookup f = some ⟨oc, od, .func (PySem.W.fnOf x qual (defArgs st) (defBody st) (defScope st) (.ref T) kV doc pm an cdv ct), osl⟩)
   (c : PySem.W.codeIn K cdv qual = true) (k : PySem.W.keepIn K (.ref f) = true) (lt : K.lookup T = some ⟨.type "tuple", dd, .seq ds.toArray n, dsl⟩) : FunD K x qual st ds f (PySem.W.fnOf x qual (defArgs st) (defBody st) (defScope st) (.ref T) kV doc pm an cdv ct) :=
 ⟨⟨T, oc, od, kV, doc, pm, an, cdv, ct, osl, _, n, rfl, l, c, lt, rfl, rfl⟩, k⟩
end
end L2
namespace L2
theorem Bt.ValueError : PySem.bootBuiltins "ValueError" = some (.type "ValueError") := PyProof.Rows.Boot.«ValueError»
open PySem PySem.Spec PyProof.Rows
def val (l : List Nat) : Int := l.foldl (fun a c => a * 10 + ((c - 48 : Nat) : Int)) 0
structure Fine (n : Nat) (z : Str) : Prop where
 len : z.length ≤ n
 cod : ∀ c ∈ cd z, c < 1000
theorem Fine.mono {n m : Nat} {z : Str} (h : Fine n z) (l : n ≤ m) : Fine m z := ⟨Nat.le_trans h.len l, h.cod⟩
theorem Fine.size {n : Nat} {z : Str} (h : Fine n z) (hn : n ≤ 100000 := by decide) : z.length ≤ sizeLine := by rw [sizeLine_eq]; have := h.len; omega
theorem Fine.int {i : Int} {k : Nat} (hk : 0 < k) (h : i.natAbs < 10 ^ k) : Fine (k + 1) (toString i) := by
 refine ⟨?_, fun c hc => ?_⟩
 · rw [show ((toString i : String) : Str).length = (toString i).length from PySem.ofString_length _]
   exact int_text_length_le10 hk h
 · rcases Nat.lt_or_ge c 1000 with z | z
   · exact z
   · exact absurd hc (int_text_free' c ⟨by omega, by omega⟩ i)
end L2
namespace L2
open PySem PySem.Spec PyProof.Rows PySem.Calls
structure EqJ (X : Cx) (H : Hp) (n : Nat) (x y : V) (b : Bool) : Prop where
 rc : ∀ (pins : List (Addr × Obj)) (s : Shared) (σ : St) (u v : Value) (A : Around), Inv X pins σ H s → RelV x u → RelV y v → A.units + n < cLine → SeqAt.RcAt A s u v b
 ne : ∀ (pins : List (Addr × Obj)) (s : Shared) (σ : St) (u v : Value) (A : Around), Inv X pins σ H s → RelV x u → RelV y v → A.units + n < cLine → SeqAt.RcNeAt A s u v (!b)
def EqJi (X : Cx) (H : Hp) (n : Nat) (x y : V) (b : Bool) : Prop :=
 ∀ (pins : List (Addr × Obj)) (s : Shared) (σ : St) (u v : Value) (A : Around), Inv X pins σ H s → RelV x u → RelV y v → A.units + n < cLine → SeqAt.EqAt A s u v b
section
variable {X : Cx} {H : Hp} {n : Nat} {x y : V} {b : Bool} {p q : Addr} {xs ys : List V}
theorem eqi_flat (fx : flatV x = true) (fy : flatV y = true) : EqJi X H n x y (eqV x y) := fun _ _ _ _ _ _ _ rx ry _ => eqAt_V rx ry fx fy
theorem vals_at {xs : List V} {us : List Value} (r : Vals xs us) {j : Nat} (h : j < us.toArray.size) : ∃ x, xs[j]? = some x ∧ RelV x us.toArray[j] := by
 have hj : j < us.length := by simpa using h
 have hx : j < xs.length := by rw [r.length]; exact hj
 obtain ⟨u, hu, ru⟩ := r.get (List.getElem?_eq_getElem hx)
 refine ⟨xs[j], List.getElem?_eq_getElem hx, ?_⟩
 rw [List.getElem?_eq_getElem hj] at hu
 cases hu
 simpa using ru
theorem eqj_tups {e : Nat → Bool} (h : SqT X.K H p xs) (k : SqT X.K H q ys) (he : ∀ (j : Nat) x y, xs[j]? = some x → ys[j]? = some y → EqJi X H n x y (e j)) :
   EqJ X H (n + 1) (.ref p) (.ref q) ((List.range (min xs.length ys.length)).all e && xs.length == ys.length) := by
 have g : ∀ (pins : List (Addr × Obj)) (s : Shared) (σ : St) (A : Around), Inv X pins σ H s → A.units + (n + 1) < cLine → ∃ its its' : List Value, s.heap.IsTuple p its.toArray ∧ s.heap.IsTuple q its'.toArray ∧ its.toArray.size = xs.length ∧ its'.toArray.size = ys.length ∧
     ∀ j (h1 : j < its.toArray.size) (h2 : j < its'.toArray.size), SeqAt.EqAt A.in1 s its.toArray[j] its'.toArray[j] (e j) := fun pins s σ A I hu => by
   obtain ⟨its, r, pl, _⟩ := I.tuple h
   obtain ⟨its', r', pl', _⟩ := I.tuple k
   have l1 := r.length
   have l2 := r'.length
   refine ⟨its, its', pl, pl', by simp only [List.size_toArray]; omega, by simp only [List.size_toArray]; omega, fun j h1 h2 => ?_⟩
   obtain ⟨x, hx, rx⟩ := vals_at r h1
   obtain ⟨y, hy, ry⟩ := vals_at r' h2
   exact he j x y hx hy pins s σ _ _ A.in1 I rx ry (by show A.units + 1 + n < _; omega)
 refine ⟨fun pins s σ u v A I rx ry hu => ?_, fun pins s σ u v A I rx ry hu => ?_⟩ <;> (cases rx; cases ry; have hu' : A.units < cLine := by omega)
 · obtain ⟨its, its', a, b, c, d, z⟩ := g pins s σ A I hu
   rw [← c, ← d]; exact SeqAt.RcAt.tuples a b hu' z
 · obtain ⟨its, its', a, b, c, d, z⟩ := g pins s σ A I hu
   rw [← c, ← d]
   exact SeqAt.RcNeAt.tuples a b hu' z
theorem eqV_self {x : V} (h : flatV x = true) : eqV x x = true := by
 cases x <;> first | rfl | exact beq_self_eq_true _ | cases h
def eqL : List V → List V → Bool
 | [], [] => true
 | x :: xs, y :: ys => eqV x y && eqL xs ys
 | _, _ => false
theorem eqL_range : ∀ {xs ys : List V}, xs.length = ys.length → (List.range xs.length).all (fun j => eqV (xs.getD j .non) (ys.getD j .non)) = eqL xs ys
 | [], [], _ => rfl
 | x :: xs, y :: ys, h => by
   have h' : xs.length = ys.length := Nat.succ.inj h
   rw [List.length_cons, List.range_succ_eq_map, List.all_cons, List.all_map, eqL, ← eqL_range h']
   rfl
 | [], _ :: _, h => by cases h
 | _ :: _, [], h => by cases h
theorem eqL_len : ∀ {xs ys : List V}, eqL xs ys = true → xs.length = ys.length
 | [], [], _ => rfl
 | x :: xs, y :: ys, h => by rw [eqL, Bool.and_eq_true] at h; rw [List.length_cons, List.length_cons, eqL_len h.2]
 | [], _ :: _, h => by cases h
 | _ :: _, [], h => by cases h
theorem eqL_self : ∀ {xs : List V}, xs.all flatV = true → eqL xs xs = true
 | [], _ => rfl
 | x :: xs, h => by rw [List.all_cons, Bool.and_eq_true] at h; rw [eqL, eqV_self h.1, eqL_self h.2]; rfl
theorem all_get {xs : List V} (h : xs.all flatV = true) {j : Nat} {x : V} (e : xs[j]? = some x) : flatV x = true ∧ xs.getD j .non = x :=
 ⟨List.all_eq_true.mp h x (List.mem_of_getElem? e), by rw [List.getD, e]; rfl⟩
theorem eqj_ftups (h : SqT X.K H p xs) (k : SqT X.K H q ys) (fx : xs.all flatV = true) (fy : ys.all flatV = true) : EqJ X H (n + 1) (.ref p) (.ref q) (eqL xs ys) := by
 have e : ((List.range (min xs.length ys.length)).all (fun j => eqV (xs.getD j .non) (ys.getD j .non)) && xs.length == ys.length) = eqL xs ys := by
   by_cases hl : xs.length = ys.length
   · rw [← hl, Nat.min_self, beq_self_eq_true, Bool.and_true]; exact eqL_range hl
   · have : eqL xs ys = false := by
       cases e : eqL xs ys with
       | false => rfl
       | true => exact absurd (eqL_len e) hl
     rw [this, beq_eq_false_iff_ne.mpr hl, Bool.and_false]
 rw [← e]
 refine eqj_tups h k fun j x y hx hy => ?_
 obtain ⟨a, a'⟩ := all_get fx hx
 obtain ⟨b, b'⟩ := all_get fy hy
 rw [a', b']
 exact eqi_flat a b
theorem op_neJ (hu : X.A.units + 20 < cLine) : OpR X (compareOp .NotEq) (fun x y H Q => ∃ b, EqJ X H 20 x y b ∧ Q (.bl (!b)) H) := by
 intro pins s σ H x y v u Q I rx ry h
 obtain ⟨b, e, q⟩ := h
 exact e.ne pins s σ v u X.A I rx ry hu X.prog X.w X.xe _ ⟨.bl (!b), H, I, rfl, q⟩
theorem hu20 {A : Around} {k : Nat} (hr : Room k A) : A.units + 20 < cLine := by have := hr.units; omega
end
end L2
namespace L2
open PySem PySem.Spec PyProof.Rows PySem.Calls
section
variable {P : Program} {w : World} {K : PySem.W.Frag} {mg : Str → Option Value} {base : Heap}
structure MethJ (P : Program) (w : World) (K : PySem.W.Frag) (mg : Str → Option Value) (base : Heap) (CX : CXT) (k : Nat) (C : Addr) (m : Str) where
 f : Addr
 fd : FuncData
 ps : List Str
 sp : Sp
 ds : List Value
 dvs : List V
 c : Cls K C
 hm : Meth K C m f
 F : FnOk P w K mg base CX k f fd ps sp
 hb : Binds K fd ps ds
 hd : Vals dvs ds
end
section
variable {X : Cx} {CX : CXT} {k : Nat} {E : XK} {m : Str} {pos apos : Pos} {e o : Expr} {es : List Expr} {ta : TE} {t : TA}
def tMethG (X : Cx) (CX : CXT) (k : Nat) (m : Str) (E : XK) (ta : TE) (t : TA) : TE := fun σ H Q => ta σ H fun x H1 => ∃ (a C dx : Addr) (fs : List (Str × V)) (M : MethJ X.prog X.w X.K X.mg X.base CX k C m), x = .ref a ∧ H1 a = some (.ins C dx fs) ∧ fs.lookup m = none ∧
 t σ H1 fun vs H2 => M.sp (x :: (vs ++ M.dvs)) H2 Q E
theorem xH {pl : Sem Bool} (hr : Room k X.A) (hx : Passes CX X E) (he : PE X o ta) (ha : PA X (e :: es) t)
   (hst : starEach (e :: es) X.env = (false, eval e X.env) :: starEach es X.env := by rfl) (hpl : (backTo pos (starEach es X.env)).any (·.1) = false := by rfl)
   (ht : eval (.Call (.Attribute o m apos) (e :: es) [] pos) X.env = (do
     let ov ← eval o X.env
     standAt apos.atName
     let (f, first) ← holding [ov] (getMethod ov m pl)
     callWith pos f first (backTo pos (starEach (e :: es) X.env)) (backToKw pos (keywordEach [] X.env))) := by rfl) :
   PE X (.Call (.Attribute o m apos) (e :: es) [] pos) (tMethG X CX k m E ta t) := by
 intro pins s σ H Q I h
 refine PySem.W.methodCall_KW (pl := pl) (thn (he pins s σ H _ I h) fun u s1 ⟨x, H1, I1, rx, a, C, dx, fs, M, ex, ea, l, q⟩ => ?_) ht
 subst ex
 obtain rfl : u = Value.ref a := rx
 refine getmeth_ok I1 ea M.c M.hm l ?_
 refine PySem.W.callWith_K (first := [.ref a]) (h₀ := X.base) I.ok.mod.kin M.hm.kp (thn (ha pos pins s1 σ H1 _ I1 q) fun us s2 ⟨vs, H2, I2, r, q2⟩ => ⟨I2.kIn, ?_⟩) hst hpl
 exact run_fn (us := .ref a :: us) (vs := .ref a :: vs) M.F hr M.hb M.hd hx I2 (.cons rfl r) q2
theorem pe_methG0 {pl : Sem Bool} (hr : Room k X.A) (hx : Passes CX X E) (he : PE X o ta)
   (ht : eval (.Call (.Attribute o m apos) [] [] pos) X.env = (do
     let ov ← eval o X.env
     standAt apos.atName
     let (f, first) ← holding [ov] (getMethod ov m pl)
     callWith pos f first (backTo pos (starEach [] X.env)) (backToKw pos (keywordEach [] X.env))) := by rfl) :
   PE X (.Call (.Attribute o m apos) [] [] pos) (tMethG X CX k m E ta tNil) := by
 intro pins s σ H Q I h
 refine PySem.W.methodCall_KW (pl := pl) (thn (he pins s σ H _ I h) fun u s1 ⟨x, H1, I1, rx, a, C, dx, fs, M, ex, ea, l, q⟩ => ?_) ht
 subst ex
 obtain rfl : u = Value.ref a := rx
 refine getmeth_ok I1 ea M.c M.hm l ?_
 exact PySem.W.callWith_K0 (first := [.ref a]) I1.kIn M.hm.kp (run_fn (us := [.ref a]) (vs := [.ref a]) M.F hr M.hb M.hd hx I1 (.cons rfl .nil) q)
structure ClsFn (K : PySem.W.Frag) (C : Addr) (m : Str) (f : Addr) : Prop where
 rd : PySem.W.readsIn K C (.type "type") = true
 at_ : PySem.W.findCls K (.ref C) (.type "type") m = some (.val (.ref f))
 sp : PySem.W.specialIn K (.ref C) "__getattribute__" = some (some (.builtin "type.__getattribute__"))
 kp : PySem.W.keepIn K (.ref f) = true
theorem pe_clsfn {pl : Sem Bool} {C f : Addr} {fd : FuncData} {ps : List Str} {sp : Sp} {x : Str} {np : Pos} (c : ClsFn X.K C m f) (F : FnOk X.prog X.w X.K X.mg X.base CX k f fd ps sp) (hr : Room k X.A) (hg : Gl X x) (hmg : X.mg x = some (.ref C)) (hb : Binds X.K fd ps []) (hx : Passes CX X E)
   (ha : PA X (e :: es) t) (hd : (x == ("__debug__" : Str)) = false := by decide)
   (hst : starEach (e :: es) X.env = (false, eval e X.env) :: starEach es X.env := by rfl) (hpl : (backTo pos (starEach es X.env)).any (·.1) = false := by rfl)
   (ht : eval (.Call (.Attribute (.Name x np) m apos) (e :: es) [] pos) X.env = (do
     let ov ← eval (.Name x np) X.env
     standAt apos.atName
     let (f, first) ← holding [ov] (getMethod ov m pl)
     callWith pos f first (backTo pos (starEach (e :: es) X.env)) (backToKw pos (keywordEach [] X.env))) := by rfl) :
   PE X (.Call (.Attribute (.Name x np) m apos) (e :: es) [] pos) (tCall sp [] E t) := by
 intro pins s σ H Q I h
 refine PySem.W.methodCall_KW (pl := pl) (xO I hg hmg ?_ hd) ht
 refine PySem.W.method_cls I.kIn c.sp (PySem.W.cls_value (s := s) I.kIn c.rd c.at_ rfl ?_)
 refine PySem.W.callWith_K (first := []) (h₀ := X.base) I.ok.mod.kin c.kp (thn (ha pos pins _ σ H _ (I.tok _) h) fun us s2 ⟨vs, H2, I2, r, q2⟩ => ⟨I2.kIn, ?_⟩) hst hpl
 exact run_fn (us := us) (vs := vs) F hr hb .nil hx I2 r q2
end
end L2
namespace L2
open PySem PySem.Spec PyProof.Rows
end L2
namespace L2
open PySem PySem.Spec PyProof.Rows PySem.Calls
section
variable {X : Cx}
end
theorem lk1 {a : Str} {v : V} {r : List (Str × V)} : ((a, v) :: r).lookup a = some v := by rw [List.lookup_cons, beq_self_eq_true]
theorem lk2 {a b : Str} {v w : V} (h : (b == a) = false) {r : List (Str × V)} : ((a, v) :: (b, w) :: r).lookup b = some w := by rw [List.lookup_cons, h]; exact lk1
structure Thing (K : PySem.W.Frag) (H : Hp) (x : V) where
 t : Value
 bi : Bool
 bb : Bool
 bs : Bool
 ty : TyE K H x t
 ki : PySem.W.kitOne K t (.type "int") = some bi
 kb : PySem.W.kitOne K t (.type "bool") = some bb
 ks : PySem.W.kitOne K t (.type "str") = some bs
 hi : (bi && !bb) = true → ∃ n, x = .int n
 hs : bs = true → ∃ z, x = .str z
 ni : ∀ n, x = .int n → (bi && !bb) = true
 ns : ∀ z, x = .str z → bs = true
 hbl : bb = true → ∃ b, x = .bl b
 nbl : ∀ b, x = .bl b → bb = true
theorem Same.seqT {K : PySem.W.Frag} {H H' : Hp} {a : Addr} {xs : List V} (e : Same H H') (h : SqT K H a xs) : SqT K H' a xs := by
 rcases h with h | h
 · exact .inl (h.imp (fun k => e _ _ k) (fun ⟨o, k⟩ => ⟨o, e _ _ k⟩))
 · exact .inr h
theorem Same.tyE' {K : PySem.W.Frag} {H H' : Hp} {x : V} {t : Value} (e : Same H H') (h : TyE K H x t) : TyE K H' x t := by
 cases h with
 | old h => exact .old (e.ty h)
 | exc h c => exact .exc (e _ _ h) c
 | excd h c => exact .excd (e _ _ h) c
 | tpl h => exact .tpl (e.seqT h)
def Thing.same {K : PySem.W.Frag} {H H' : Hp} {x : V} (h : Thing K H x) (e : Same H H') : Thing K H' x := ⟨h.t, h.bi, h.bb, h.bs, e.tyE' h.ty, h.ki, h.kb, h.ks, h.hi, h.hs, h.ni, h.ns, h.hbl, h.nbl⟩
theorem Same.upd {H H' : Hp} {p : Addr} {o : HO} (e : Same H H') (h : H p = none ∨ H p = some o) : Same H (L2.upd H' p o) := fun b u q => by
 by_cases z : b = p
 · subst z
   rcases h with h | h
   · rw [h] at q; cases q
   · rw [h] at q; rw [zB]; exact q
 · rw [zK z]; exact e b u q
end L2
namespace L2
open PySem PySem.Spec PyProof.Rows
end L2
namespace L2
open PySem PySem.Spec PyProof.Rows PySem.Calls
theorem pe_eqv {X : Cx} {e : Expr} {te te' : TE} (h : PE X e te') (h2 : te' = te) : PE X e te := h2 ▸ h
def TabK (K : PySem.W.Frag) (a : Addr) (D : List (Str × Bool)) : Prop :=
 (a == sysModules) = false ∧ ∃ o es ep, K.lookup a = some o ∧ o.ExactDict ∧ o.data = .dict es ep ∧ KTD.Rows (fun (b : Bool) (v : Value) => v = .bool b) es.toList D
theorem tabK_mk {K : PySem.W.Frag} {a : Addr} {oc : Value} {od : Option Addr} {es : Array DictEntry} {ep : Nat} {sl : Array (Option Value)} {D : List (Str × Bool)} (h : K.lookup a = some ⟨oc, od, .dict es ep, sl⟩) (hs : (a == sysModules) = false) (hc : oc = .type "dict") (hd : od = none) (hsl : sl = #[]) (hr : KTD.Rows (fun (b : Bool) (v : Value) => v = .bool b) es.toList D) : TabK K a D := by
 subst hc hd hsl
 exact ⟨hs, _, es, ep, h, ⟨rfl, rfl, rfl⟩, rfl, hr⟩
def lookB (D : List (Str × Bool)) (z : Str) : V := match D.lookup z with
 | some b => .bl b
 | none => .non
theorem datum_look (z : Str) : ∀ D : List (Str × Bool), KTD.datumAt z (D.map fun p => (p.1, KTD.Dat.flat (.bool p.2))) = (D.lookup z).map fun b => KTD.Dat.flat (.bool b)
 | [] => rfl
 | (x, b) :: D => by
   show (if decide (z = x) = true then some (KTD.Dat.flat (.bool b)) else KTD.datumAt z (D.map fun p => (p.1, KTD.Dat.flat (.bool p.2)))) = _
   rw [datum_look z D, List.lookup_cons]
   by_cases h : z = x
   · subst h; rw [if_pos (decide_eq_true rfl), beq_self_eq_true]; rfl
   · rw [if_neg (by simpa using h), beq_eq_false_iff_ne.mpr h]
section
variable {X : Cx}
theorem pe_gget {x : Str} {a : Addr} {D : List (Str × Bool)} {e : Expr} {te : TE} {np apos cpos : Pos} (hg : Gl X x) (hm : X.mg x = some (.ref a)) (hT : TabK X.K a D) (he : PE X e te) (m : M1 X (.Name x np) "get" apos e cpos) (hdb : (x == ("__debug__" : Str)) = false := by decide) :
   PE X (.Call (.Attribute (.Name x np) "get" apos) [e] [] cpos) (fun σ H Q => te σ H fun v H1 => ∃ z, v = .str z ∧ Q (lookB D z) H1) := by
 intro pins s σ H Q I h
 obtain ⟨lo, o, es, ep, lk, hc, hd, hr⟩ := hT
 have T0 : KTD.TextTab X.base a (D.map fun p => (p.1, KTD.Dat.flat (.bool p.2))) :=
   ⟨lo, o, es, ep, I.ok.mod.kin _ _ lk, hc, hd, hr.mono (f := fun b => KTD.Dat.flat (.bool b)) fun d v e => by subst e; exact PyProof.V.Flat.bool d⟩
 have T : ∀ {pins : List (Addr × Obj)} {σ : St} {H : Hp} {s : Shared}, Inv X pins σ H s → KTD.Here X.base s.heap a (D.map fun p => (p.1, KTD.Dat.flat (.bool p.2))) := fun I => ⟨T0, I.bk⟩
 refine wpAny_Call_method m.base m.few m.line PySem.F.plainAttrs_dict PySem.F.slot_dict_get PySem.F.type_dict_get (xO I hg hm ?_ hdb)
 refine ⟨(T I).typeIs, (T I).noDict, ?_⟩
 rw [m.trees]
 refine Calls.callWith_builtin rfl (Calls.evalArgs_plain (Calls.spliced_cons (thn (he pins s σ H _ I h) fun iv s2 ⟨y, H2, I2, ry, z, ez, q2⟩ => Calls.spliced_nil ?_)))
 subst ez
 obtain ⟨t, rfl⟩ := ry
 refine call_meetsIn PySem.F.slot_dict_get (T I2).typeIs PySem.F.entry_dict_get (PySem.F.args_dict_get_2 _ _) (KTD.meets_get1 (h₀ := X.base)) ⟨T I2, fun d v ha hv => ?_, fun hn => ?_⟩
 · rw [datum_look] at ha
   cases hl : D.lookup z with
   | none => rw [hl] at ha; cases ha
   | some b =>
     rw [hl] at ha
     cases ha
     have hv' : v = .bool b := PyProof.V.Flat.bool_inv hv
     subst hv'
     refine ⟨.bl b, H2, I2.tok _, rfl, ?_⟩
     unfold lookB at q2
     rw [hl] at q2
     exact q2
 · rw [datum_look] at hn
   cases hl : D.lookup z with
   | some b => rw [hl] at hn; cases hn
   | none =>
     refine ⟨.non, H2, I2.tok _, rfl, ?_⟩
     unfold lookB at q2
     rw [hl] at q2
     exact q2
theorem vals_nth : ∀ {xs : List V} {us : List Value}, Vals xs us → xs.all flatV = true → ∀ {x : V} (j : Nat) (h : j < us.toArray.size), eqU x us.toArray[j] = eqV (xs.getD j .non) x := by
 intro xs us r f x j h
 obtain ⟨y, hy, ry⟩ := vals_at r h
 obtain ⟨a, b⟩ := all_get f hy
 rw [b]
 exact eqU_of ry a
def IdxOf (x : V) (xs : List V) (j : Nat) : Prop := ∃ y, xs[j]? = some y ∧ eqV y x = true ∧ ∀ (m : Nat) z, m < j → xs[m]? = some z → eqV z x = false
theorem mt_lindex : MtM X "list.index" (fun x vs H Q => ∃ p xs y j, x = .ref p ∧ vs = [y] ∧ SqL X.K H p xs ∧ xs.all flatV = true ∧ flatV y = true ∧ IdxOf y xs j ∧ Q (.int (j : Nat)) H) := by
 intro pins s σ H x vs v us Q I rx rv h
 obtain ⟨p, xs, y, j, rfl, rfl, hq, fs, fy, ⟨y', hj, hy, hno⟩, q⟩ := h
 cases rx
 obtain ⟨u, rfl, ru⟩ := rv.one
 obtain ⟨its, r, pl, hz⟩ := I.list hq
 obtain ⟨⟨cls, dd, data, sl⟩, ho, hc, n, hd⟩ := pl.isList
 simp only at hc hd
 subst hc hd
 have hl := r.length
 have hlt : j < xs.length := (List.getElem?_eq_some_iff.mp hj).1
 have hn := line63
 refine call_meets PySem.F.slot_list_index ⟨_, ho, rfl⟩ PySem.F.entry_list_index (PySem.F.args_list_index_2 _ _)
   (SeqAt.list_indexAt p its.toArray n dd sl u (eqU y) j (by rw [List.size_toArray]; omega) (by omega) ?_ ?_) ⟨ho, fun w hw => mem_eqAt ru fy r fs w (by simpa using hw), ⟨.int j, H, I.tok _, ⟨_, rfl⟩, q⟩⟩
 · rw [vals_nth r fs, (all_get fs hj).2]; exact hy
 · intro m hm hmj
   rw [vals_nth r fs]
   have hm' : m < xs.length := by omega
   have e := List.getElem?_eq_getElem hm'
   rw [(all_get fs e).2]
   exact hno m _ hmj e
end
end L2
namespace L2
open PySem PySem.Spec PyProof.Rows PySem.Calls
section
variable {prog : Program} {w : World} {A : Around} {R : Result → Shared → Prop} {I : Addr} {fp wr : List Addr} {G : Array GenState → Array GenState → Prop} {n : Nat} {P : Nat → Value → Prop} {St : Nat → Shared → Prop}
end
section
variable {prog : Program} {w : World} {A : Around} {E : Value → Shared → Prop} {s : Shared}
end
section
variable {X : Cx}
end
end L2
namespace L2
open PySem PySem.Spec PyProof.Rows PySem.Calls
section
variable {X : Cx}
end
end L2
namespace HT
open PySem PySem.Spec PyProof.Rows PySem.Calls
section
variable {prog : Program} {w : World} {A : Around} {E : Value → Shared → Prop} {s : Shared}
end
end HT
namespace L2
open PySem PySem.Spec PyProof.Rows PySem.Calls
section
variable {X : Cx}
end
end L2
namespace L2
open PySem PySem.Spec PyProof.Rows PySem.Calls
def PIfs (X : Cx) (ifs : List Expr) (t : TT) : Prop :=
 ∀ (pins : List (Addr × Obj)) (s : Shared) (σ : St) (H : Hp) (Q : Bool → Hp → Prop), Inv X pins σ H s → t σ H Q →
   wpAny (model X.prog X.w) X.A (forIn ifs true fun c r => if r = true then do let ok ← isTrue c X.env (eval c X.env); pure (ForInStep.yield ok) else pure (ForInStep.yield r)) (TP X pins σ Q) X.xe s
def tTrue : TT := fun _ H Q => Q true H
theorem pifs_nil {X : Cx} : PIfs X [] tTrue := fun pins s σ H Q I h => wpAny_pure ⟨H, I, h⟩
theorem pifs_one {X : Cx} {c : Expr} {t : TT} (hc : PT X c t) : PIfs X [c] t := fun pins s σ H Q I h => by
 rw [List.forIn_cons]
 refine wpAny_bind (wpAny_bind (thn (hc pins s σ H Q I h) fun b s1 q => wpAny_pure ?_))
 exact wpAny_pure q
theorem compLoop_go2 {prog : Program} {w : World} {A : Around} {R : Result → Shared → Prop} {s : Shared} {elt target iter : Expr} {ifs : List Expr} {scope : Scope} {pos : Pos} {it acc : Value} {env : Env} (I : Nat → Shared → Prop)
   (turn : ∀ n s, I n s → wpAny (model prog w) A (pyNext it) (fun r s₁ => match r with
     | none => R (.ok .next) s₁
     | some v => wpAny (model prog w) A (letOwnedTupleGo target it v) (fun _ s₂ => wpAny (model prog w) A (assign target env v) (fun _ s₃ =>
         wpAny (model prog w) A (forIn ifs true fun c r => if r = true then do let ok ← isTrue c env (eval c env); pure (ForInStep.yield ok) else pure (ForInStep.yield r)) (fun ok s₄ =>
           if ok = true then wpAny (model prog w) A (eval elt env) (fun x s₅ =>
             wpAny (model prog w) A (call (.builtin "list.append") [acc, x]) (fun _ s₆ => ∃ m, m < n ∧ I m s₆) (notedBy (model prog w) A env fun e s' => R (.error e) s') s₅)
             (notedBy (model prog w) A env fun e s' => R (.error e) s') s₄ else ∃ m, m < n ∧ I m s₄)
           (notedBy (model prog w) A env fun e s' => R (.error e) s') s₃) (notedBy (model prog w) A env fun e s' => R (.error e) s') s₂) (notedBy (model prog w) A env fun e s' => R (.error e) s') s₁)
     (notedBy (model prog w) A env fun e s' => R (.error e) s') s)
   (n : Nat) (h : I n s) : codeAny (model prog w) A (.compLoop (.ListComp elt [⟨target, iter, ifs, 0⟩] scope pos) 0 it acc env) R s := by
 refine codeAny_loop rfl I (fun n s hI => ?_) n h
 show wpAny _ A ((compTurn (.ListComp elt [⟨target, iter, ifs, 0⟩] scope pos) 0 it acc env).onRaise (fun x => do noteFrame x env; theTreesLotGoes x)) _ _ s
 refine wpAny_noted ?_
 rw [compTurn_list]
 refine wpAny_bind (wpAny_standAt (wpAny_bind (wpAny_mono (turn n s hI) (fun r s₁ h₁ => ?_) fun _ _ h' => h')))
 cases r with
 | none => exact wpAny_pure h₁
 | some v =>
   refine wpAny_bind (wpAny_mono h₁ (fun _ s₂ h₂ => wpAny_bind (wpAny_mono h₂ (fun _ s₃ h₃ => ?_) fun _ _ h' => h')) fun _ _ h' => h')
   refine wpAny_bind (wpAny_mono h₃ (fun ok s₄ h₄ => ?_) fun _ _ h' => h')
   cases ok with
   | false => exact wpAny_pure ⟨rfl, h₄⟩
   | true => exact wpAny_bind (wpAny_bind (wpAny_mono h₄ (fun x s₅ h₅ => wpAny_bind (wpAny_mono h₅ (fun _ s₆ h₆ => wpAny_pure (wpAny_pure ⟨rfl, h₆⟩)) fun _ _ h' => h')) fun _ _ h' => h'))
def compCx2 (X : Cx) (scope : Scope) (C : Addr) (x y : Str) (M : List Str) (s₂ : Shared) (H₂ : Hp) (fp : List Addr) : Cx :=
 { X with N := x :: y :: M, s₀ := s₂, H₀ := H₂, env := compEnvC scope (clOf X.env scope.names []) C X.env, outer := X.stack, ex := fp, fn := fun _ => false, pn := [], xe := fun _ _ => False }
structure CompOk2 (X : Cx) (scope : Scope) (x y : Str) (M : List Str) : Prop where
 base : CompOk X scope x M
 loc2 : scope.names.lookup y = some .local
 nd2 : (x :: y :: M).Nodup
theorem compOk2_of {X : Cx} {scope : Scope} {x y : Str} {M : List Str} (h : CompOk X scope x M) (h1 : scope.names.lookup y = some .local) (h2 : (x :: y :: M).Nodup) : CompOk2 X scope x y M := ⟨h, h1, h2⟩
section
variable {X : Cx} {scope : Scope} {x y : Str} {M : List Str} {pins : List (Addr × Obj)} {σ : St} {H₂ : Hp} {s₂ : Shared} {elt iter tg : Expr} {ifs : List Expr} {pos : Pos} {te : TE} {wi : TI} {g : TG} {tc : TT}
theorem inv_comp2 (K : CompOk2 X scope x y M) (I : Inv X pins σ H₂ s₂) {fp : List Addr} (hf : ∀ b ∈ fp, FpOk X pins H₂ b) (hfl : ∀ b ∈ fp, b < s₂.heap.objs.size) {C : Addr} (hC : s₂.heap.objs.size ≤ C) {h₁ : Heap} {t : Nat} {m : Str → Option Value} (hn : h₁.Ns C m)
   (hk : ∀ b o, s₂.heap.get? b = some o → h₁.get? b = some o) : Inv (compCx2 X scope C x y M s₂ H₂ fp) [] (none :: none :: σ) H₂ { s₂ with heap := h₁, toks := t } := by
 have I1 := inv_comp (t := t) K.base I hf hfl hC hn hk
 have ok : (compCx2 X scope C x y M s₂ H₂ fp).Ok := by
   obtain ⟨a1, a2, a3, a4, a5, a6, a7, a8, a9, a10, a11, a12, a13, a14, a15, a16, a17, a18⟩ := I1.ok
   exact ⟨a1, a2, a3, a4, a5, a6, a7, a8, a9, a10, a11, a12, a13, a14, a15, a16, a17, a18⟩
 obtain ⟨m', ns', lo⟩ := I1.loc
 refine ⟨ok, I1.os, I1.bare, I1.base, ⟨m', ns', fun i z v e1 e2 e3 => ?_⟩, I1.cell, I1.free, I1.freeC, I1.pin, I1.hok, ?_⟩
 · match i, e1, e2 with
   | 0, _, e2 => cases e2
   | 1, _, e2 => cases e2
   | j + 2, e1, e2 => exact lo (j + 1) z v e1 e2 e3
 · have := I1.len
   show (none :: none :: σ).length = (x :: y :: M).length
   have h2 : (none :: σ).length = (x :: M).length := this
   simp only [List.length_cons] at h2 ⊢
   omega
def tComp2 (wi : TI) (g : TG) (tc : TT) (te : TE) : TE := fun σ H Q => wi σ H fun J H1 => ∃ (n : Nat) (W : Nat → List V → Hp → Prop), n ≤ sizeLine ∧ W 0 [] H1 ∧ ∀ i ys H, i ≤ n → ys.length ≤ i → W i ys H →
 (J.stop i H ∧ ∀ p, H p = none → Q (.ref p) (upd H p (.lst ys))) ∨ (J.go i H ∧ i < n ∧ ∀ x H', J.yld i H x H' → ∀ u v, g x (u :: v :: σ) H' fun ρ H2 => (∃ u' v', ρ = u' :: v' :: σ) ∧ tc ρ H2 fun c H3 => if c = true then te ρ H3 fun z H4 => W (i + 1) (ys ++ [z]) H4 else W (i + 1) ys H3)
theorem comp_block2 (K : CompOk2 X scope x y M) (hc : X.calm = true) (I : Inv X pins σ H₂ s₂) (hg : ∀ (C : Addr) (s₂ : Shared) (H₂ : Hp) (fp : List Addr), PG (compCx2 X scope C x y M s₂ H₂ fp) tg g) (ht : ∀ (C : Addr) (s₂ : Shared) (H₂ : Hp) (fp : List Addr), PIfs (compCx2 X scope C x y M s₂ H₂ fp) ifs tc) (he : ∀ (C : Addr) (s₂ : Shared) (H₂ : Hp) (fp : List Addr), PE (compCx2 X scope C x y M s₂ H₂ fp) elt te)
   {it : Addr} {fp : List Addr} {tn : Nat → Heap → Prop} {J : It} (T : Turn X.prog X.w X.K tg J fp it tn) (st : tn 0 s₂.heap) (hf : ∀ b ∈ fp, FpOk X pins H₂ b) {n : Nat} (hsz : n ≤ sizeLine) {W : Nat → List V → Hp → Prop} {F : List V → Hp → Prop}
   (w0 : W 0 [] H₂) (turn : ∀ i ys H, i ≤ n → ys.length ≤ i → W i ys H → (J.stop i H ∧ F ys H) ∨ (J.go i H ∧ i < n ∧ ∀ x H', J.yld i H x H' → ∀ u v, g x (u :: v :: σ) H' fun ρ H2 => (∃ u' v', ρ = u' :: v' :: σ) ∧ tc ρ H2 fun c H3 => if c = true then te ρ H3 fun z H4 => W (i + 1) (ys ++ [z]) H4 else W (i + 1) ys H3))
   {E : Value → Shared → Prop} {RR : Value → Addr → Result → Shared → Prop}
   (hRR : ∀ (D C : Addr) (s' : Shared) (H' : Hp) (ys : List V) (m : Str → Option Value), Inv X pins σ (upd H' D (.lst ys)) s' → H' D = none → FpOk X pins (upd H' D (.lst ys)) C → s'.heap.Ns C m → F ys H' → RR (.ref D) C (.ok .next) s') :
   wpAny (model X.prog X.w) X.A (newList []) (fun acc s₃ => wpAny (model X.prog X.w) X.A (newFunctionEnv scope X.env.globals (clOf X.env scope.names []) [] X.env.qual none .none (some X.env)) (fun cenv s₄ =>
     codeAny (model X.prog X.w) X.A (.compStart (.ListComp elt [⟨tg, iter, ifs, 0⟩] scope pos) 0 (.ref it) acc { cenv with scope := relabel scope X.env }) (RR acc cenv.locals) s₄) E s₃) E s₂ := by
 refine wpAny_newObj_type (wpAny_newFunctionEnv K.base.cell (by intro y hy; simp at hy) (fun h₁ hns₁ hsb₁ => ?_) K.base.kind)
 dsimp only at hns₁ hsb₁ ⊢
 generalize hH2 : s₂.heap.push { cls := .type "list", dict := none, data := .seq ([] : List Value).toArray } = H2 at hns₁ hsb₁ ⊢
 have hC : H2.objs.size = s₂.heap.objs.size + 1 := by rw [← hH2, Heap.size_push]
 have hDC : s₂.heap.objs.size ≠ H2.objs.size := by rw [hC]; exact Nat.ne_of_lt (Nat.lt_succ_self _)
 have below : ∀ b, b < s₂.heap.objs.size → b ≠ H2.objs.size ∧ b ≠ s₂.heap.objs.size := fun b hb => ⟨by rw [hC]; exact Nat.ne_of_lt (Nat.lt_succ_of_lt hb), Nat.ne_of_lt hb⟩
 have hfl : ∀ b ∈ fp, b < s₂.heap.objs.size := fun b hb => by obtain ⟨o, e, _⟩ := T.obj _ _ st b hb; exact Heap.lt_size e
 have old : ∀ b o, s₂.heap.get? b = some o → h₁.get? b = some o := fun b o e => hsb₁.extBut b o (below b (Heap.lt_size e)).1 (Heap.get?_push_of_some _ (hH2 ▸ Heap.get?_push_of_some _ e))
 have hacc : h₁.get? s₂.heap.objs.size = some { cls := .type "list", data := .seq ([] : List Value).toArray 0 } := hsb₁.extBut _ _ hDC (Heap.get?_push_of_some _ (hH2 ▸ Heap.get?_push_size _ rfl))
 generalize hCC : H2.objs.size = C at *
 generalize hDD : s₂.heap.objs.size = D at *
 have hCle : s₂.heap.objs.size ≤ C := by rw [hDD, hC]; exact Nat.le_succ _
 have st₁ : tn 0 h₁ := T.keep _ _ _ st fun b _ o e => old b o e
 have I₁ := inv_comp2 (t := s₂.toks + ([] : List (Str × Value)).length) K I hf (fun b hb => by rw [hDD]; exact hfl b hb) hCle hns₁ old
 generalize hX' : compCx2 X scope C x y M s₂ H₂ fp = X' at I₁
 have eX : X'.prog = X.prog ∧ X'.w = X.w ∧ X'.K = X.K ∧ X'.calm = true ∧ X'.A = X.A ∧ X'.ex = fp ∧ X'.env = compEnvC scope (clOf X.env scope.names []) C X.env ∧ X'.s₀ = s₂ ∧ X'.pn = [] := by
   subst hX'; exact ⟨rfl, rfl, rfl, hc, rfl, rfl, rfl, rfl, rfl⟩
 obtain ⟨eP, ew, eK, ec, eA, eex, eenv, es0, epn⟩ := eX
 have eL : X'.env.locals = C := by rw [eenv]; rfl
 have cells' : ∀ y c, X'.env.cells.lookup y = some c → X.env.cells.lookup y = some c := fun y c e => by rw [eenv] at e; exact CompOk.cl_of e
 have efs : X'.fs = frs X.stack := by subst hX'; rfl
 have fsub : ∀ b ∈ X'.fs, b = X.env.locals ∨ b ∈ X.fs := fun b hb => List.mem_cons.mp (I.stkSub b (by rw [← efs]; exact hb))
 have fpok : ∀ {pn : List (Addr × Obj)} {H' : Hp}, (∀ p ∈ pn, p.1 = D) → (∀ b ∈ fp, H' b = none) → ∀ b ∈ fp, FpOk X' pn H' b := fun {pn H'} hp hn b hb => by
   refine ⟨hn b hb, ?_, fun z => ?_, .inl (by rw [eex]; exact hb), fun y c e => (hf b hb).2.2.2.2.1 y c (cells' y c e), fun p hq => ?_⟩
   · rw [eL]; exact (below b (hfl b hb)).1
   · rcases fsub b z with q | q
     · exact (hf b hb).2.1 q
     · exact (hf b hb).2.2.1 q
   · rw [epn, List.nil_append] at hq
     rw [hp p hq]; exact Ne.symm (below b (hfl b hb)).2
 have Dfp : D ∉ fp := fun z => Nat.lt_irrefl _ (hfl D z)
 have ltL : X.env.locals < D := by have := I.lt; rw [hDD] at this; exact this
 have ltF : ∀ b ∈ X.fs, b < D := fun b hb => Nat.lt_of_not_le fun z => I.nofs (a := b) (by rw [hDD]; exact z) hb
 have newok : ∀ {b : Addr} {pn : List (Addr × Obj)} {H' : Hp}, D ≤ b → b ≠ C → H' b = none → (∀ p ∈ pn, p.1 ≠ b) → FpOk X' pn H' b := fun {b pn H'} hb hbC hn hp => by
   refine ⟨hn, by rw [eL]; exact hbC, fun z => ?_, .inr (by rw [es0, hDD]; exact hb), fun y c e => ?_, fun p hq => ?_⟩
   · rcases fsub b z with q | q
     · rw [q] at hb; exact absurd (Nat.lt_of_lt_of_le ltL hb) (Nat.lt_irrefl _)
     · exact absurd (Nat.lt_of_lt_of_le (ltF b q) hb) (Nat.lt_irrefl _)
   · obtain ⟨v, o, ho, _⟩ := I.cell y c (cells' y c e)
     have := Heap.lt_size ho
     rw [hDD] at this
     exact Nat.ne_of_lt (Nat.lt_of_lt_of_le this hb)
   · rw [epn, List.nil_append] at hq
     exact hp p hq
 have outer : ∀ {σ' : St} {H' : Hp} {s' : Shared} {pn : List (Addr × Obj)}, Inv X' pn σ' H' s' → Inv X pins σ H' s' := fun {σ' H' s' pn} J' => by
   subst hX'
   refine I.call' (ch := fp) J'.os J'.base J'.hok J'.bare fun b hb => ?_
   obtain ⟨f0, f1, f2, f3, f4, f5⟩ := hf b hb
   exact ⟨f3, f1, f4, f5⟩
 have outok : ∀ {b : Addr} {H' : Hp}, D ≤ b → H' b = none → FpOk X pins H' b := fun {b H'} hb hn => by
   have q := I.fpOk (H' := H') (b := b) (by rw [hDD]; exact hb) hn
   exact q
 have loop : ∀ s₃ : Shared, s₃ = { s₂ with heap := h₁, toks := s₂.toks + ([] : List (Str × Value)).length } →
     codeAny (model X.prog X.w) X.A (.compLoop (.ListComp elt [⟨tg, iter, ifs, 0⟩] scope pos) 0 (.ref it) (.ref D) (compEnvC scope (clOf X.env scope.names []) C X.env)) (RR (.ref D) C) s₃ := by
   rintro s₃ rfl
   refine compLoop_go2 (fun k s' => ∃ (i : Nat) (ys : List V) (its : List Value) (σ0 σ1 : Option V) (H' : Hp), i ≤ n ∧ k = n + 1 - i ∧ ys.length ≤ i ∧ Inv X' [] (σ0 :: σ1 :: σ) H' s' ∧ tn i s'.heap ∧ (∀ b ∈ fp, H' b = none) ∧ H' D = none ∧ Vals ys its ∧
     (∃ c, s'.heap.get? D = some { cls := .type "list", data := .seq its.toArray c }) ∧ W i ys H') ?_ (n + 1) ⟨0, [], [], none, none, H₂, Nat.zero_le _, rfl, Nat.le_refl _, I₁, st₁, fun b hb => (hf b hb).1, by rw [← hDD]; exact I.hok.fresh (Nat.le_refl _), .nil, ⟨0, hacc⟩, w0⟩
   rintro k s' ⟨i, ys, its, σ0, σ1, H', hi, rfl, hyl, I', st', fr', hD', rv, ⟨c, hobj⟩, w'⟩
   rcases turn i ys H' hi hyl w' with ⟨stop, fin⟩ | ⟨go, hlt, step⟩
   · have pinD : Inv X' [(D, { cls := .type "list", data := .seq its.toArray c })] (σ0 :: σ1 :: σ) H' s' := I'.pins_of fun p hp => by
       obtain rfl : p = (D, { cls := .type "list", data := .seq its.toArray c }) := by simpa using hp
       refine ⟨hobj, hD', ?_, ?_, fun v z => nomatch z⟩
       · rw [eL]; exact hDC
       · intro z
         rcases fsub D z with q | q
         · rw [q] at ltL; exact Nat.lt_irrefl _ ltL
         · exact Nat.lt_irrefl _ (ltF D q)
     have q := T.done X' eP ew eK ec i _ s' (σ0 :: σ1 :: σ) H' (notedBy (model X.prog X.w) X.A (compEnvC scope (clOf X.env scope.names []) C X.env) fun e s' => RR (.ref D) C (.error e) s') pinD (fpok (fun p hp => by obtain rfl : p = (D, { cls := .type "list", data := .seq its.toArray c }) := (by simpa using hp); rfl) fr') st' stop
     rw [eA] at q
     refine wpAny_mono q (fun r s4 ⟨hr, I4⟩ => ?_) fun _ _ z => z
     subst hr
     obtain ⟨e4, n4, _⟩ := I4.pin (D, { cls := .type "list", data := .seq its.toArray c }) (List.mem_append_right _ (by simp))
     have O4 := outer I4
     obtain ⟨m4, ns4, _⟩ := I4.loc
     rw [eL] at ns4
     refine hRR D C s4 H' ys m4 (O4.track (outok (Nat.le_refl _) n4) (Nat.le_trans I.sz (by rw [hDD]; exact Nat.le_refl _)) ⟨Nat.le_trans hyl (Nat.le_trans hi hsz), its, c, rv, e4⟩) n4 (outok (by rw [hC]; exact Nat.le_succ _) ?_) ns4 fin
     rw [zK (Ne.symm hDC)]
     have := I4.free
     rw [eL] at this
     exact this
   · have pinD : Inv X' [(D, { cls := .type "list", data := .seq its.toArray c })] (σ0 :: σ1 :: σ) H' s' := I'.pins_of fun p hp => by
       obtain rfl : p = (D, { cls := .type "list", data := .seq its.toArray c }) := by simpa using hp
       refine ⟨hobj, hD', ?_, ?_, fun v z => nomatch z⟩
       · rw [eL]; exact hDC
       · intro z
         rcases fsub D z with q | q
         · rw [q] at ltL; exact Nat.lt_irrefl _ ltL
         · exact Nat.lt_irrefl _ (ltF D q)
     have pd : ∀ p ∈ [(D, ({ cls := .type "list", data := .seq its.toArray c } : Obj))], p.1 = D := fun p hp => by obtain rfl : p = (D, { cls := .type "list", data := .seq its.toArray c }) := (by simpa using hp); rfl
     have q := T.item X' eP ew eK ec i _ s' (σ0 :: σ1 :: σ) H' (notedBy (model X.prog X.w) X.A (compEnvC scope (clOf X.env scope.names []) C X.env) fun e s' => RR (.ref D) C (.error e) s') pinD (fpok pd fr') st' go
     rw [eA] at q
     refine wpAny_mono q (fun r s4 ⟨u, hr, h4⟩ => ?_) fun _ _ z => z
     subst hr
     refine wpAny_mono h4 (fun _ s5 ⟨xv, H5, I5, r5, y5, st5, fr5⟩ => ?_) fun _ _ z => z
     have I5' := I5.pinned (fpok pd fr5) (T.obj _ _ st5)
     rw [← eenv]
     have g6 := step xv H5 y5 σ0 σ1
     have q6 := (hg C s₂ H₂ fp) (([(D, ({ cls := .type "list", data := .seq its.toArray c } : Obj))]) ++ pinsAt fp s5.heap) s5 (σ0 :: σ1 :: σ) H5 xv u _ (by rw [hX']; exact I5') r5 g6
     rw [hX', eP, ew, eA] at q6
     refine wpAny_mono q6 (fun _ s6 ⟨ρ, H6, I6, ⟨u', v', eρ⟩, t6⟩ => ?_) (fun _ _ z => by subst hX'; exact (show False from z).elim)
     subst eρ
     have q7 := (ht C s₂ H₂ fp) _ s6 (u' :: v' :: σ) H6 _ (by rw [hX']; exact I6) t6
     rw [hX', eP, ew, eA] at q7
     refine wpAny_mono q7 (fun ok s7 ⟨H7, I7, w7⟩ => ?_) (fun _ _ z => by subst hX'; exact (show False from z).elim)
     have keepT : ∀ {s8 : Shared} {H8 : Hp} {pn : List (Addr × Obj)}, Inv X' (pn ++ (([(D, ({ cls := .type "list", data := .seq its.toArray c } : Obj))]) ++ pinsAt fp s5.heap)) (u' :: v' :: σ) H8 s8 → True := fun _ => trivial
     cases ok with
     | false =>
       obtain ⟨e7, n7, _⟩ := I7.pin (D, { cls := .type "list", data := .seq its.toArray c }) (List.mem_append_right _ (List.mem_append_left _ (by simp)))
       refine ⟨n + 1 - (i + 1), by omega, i + 1, ys, its, u', v', H7, hlt, rfl, Nat.le_succ_of_le hyl, I7.pins_of (pins' := []) fun p hp => absurd hp (by simp), ?_, fun b hb => ?_, n7, rv, ⟨c, e7⟩, w7⟩
       · refine T.keep _ _ _ st5 fun b hb o e => ?_
         exact (I7.pin (b, o) (List.mem_append_right _ (List.mem_append_right _ (xD hb e)))).1
       · obtain ⟨o, e, d⟩ := T.obj _ _ st5 b hb
         exact (I7.pin (b, o) (List.mem_append_right _ (List.mem_append_right _ (xD hb e)))).2.1
     | true =>
       have q8 := (he C s₂ H₂ fp) _ s7 (u' :: v' :: σ) H7 (fun z H'' => W (i + 1) (ys ++ [z]) H'') (by rw [hX']; exact I7) w7
       rw [hX', eP, ew, eA] at q8
       refine wpAny_mono q8 (fun u8 s8 ⟨v8, H8, I8, r8, w8⟩ => ?_) (fun _ _ z => by subst hX'; exact (show False from z).elim)
       obtain ⟨e7, n7, _⟩ := I8.pin (D, { cls := .type "list", data := .seq its.toArray c }) (List.mem_append_right _ (List.mem_append_left _ (by simp)))
       refine append_at (hsz := by rw [List.size_toArray, ← rv.length]; exact Nat.le_trans hyl (Nat.le_trans hi hsz)) e7 fun h8 sb8 g8 => ?_
       have I9 : Inv X' [] (u' :: v' :: σ) H8 { s8 with heap := h8, toks := s8.toks } := (I8.pins_of (pins' := []) fun p hp => absurd hp (by simp)).turned (t' := s8.toks) (it := D) (fun b o hb e => (sb8.2 b hb).trans e) n7 (by rw [eL]; exact hDC) (.inr (by rw [es0, hDD]; exact Nat.le_refl _))
         (newok (H' := H8) (pn := []) (Nat.le_refl _) hDC n7 (fun p hp => absurd hp (by simp))).2.2.2.2.1 (fun p hp => by rw [epn] at hp; exact absurd hp (by simp))
       refine ⟨n + 1 - (i + 1), by omega, i + 1, ys ++ [v8], its ++ [u8], u', v', H8, hlt, rfl, by rw [List.length_append, List.length_singleton]; omega, I9, ?_, fun b hb => ?_, n7, rv.append (.cons r8 .nil), ⟨c + 1, ?_⟩, w8⟩
       · refine T.keep _ _ _ st5 fun b hb o e => ?_
         have e' := (I8.pin (b, o) (List.mem_append_right _ (List.mem_append_right _ (xD hb e)))).1
         exact (sb8.2 b (fun z => Dfp (z ▸ hb))).trans e'
       · obtain ⟨o, e, d⟩ := T.obj _ _ st5 b hb
         exact (I8.pin (b, o) (List.mem_append_right _ (List.mem_append_right _ (xD hb e)))).2.1
       · rw [g8, List.push_toArray]
 exact codeAny_compStart_list (loop _ rfl) (T.self X.A 0 _ _ _ st₁ (loop _ rfl))
theorem pe_comp2 (K : CompOk2 X scope x y M) (hc : X.calm = true) (hi : PI X tg iter wi) (hg : ∀ (C : Addr) (s₂ : Shared) (H₂ : Hp) (fp : List Addr), PG (compCx2 X scope C x y M s₂ H₂ fp) tg g) (ht : ∀ (C : Addr) (s₂ : Shared) (H₂ : Hp) (fp : List Addr), PIfs (compCx2 X scope C x y M s₂ H₂ fp) ifs tc) (he : ∀ (C : Addr) (s₂ : Shared) (H₂ : Hp) (fp : List Addr), PE (compCx2 X scope C x y M s₂ H₂ fp) elt te)
   (hs : ∀ x, foldedSetIterable iter X.env x = pure x := by intro _; rfl) : PE X (.ListComp elt [⟨tg, iter, ifs, 0⟩] scope pos) (tComp2 wi g tc te) := by
 intro pins s σ H Q I h
 rw [eval_ListComp]
 refine wpAny_comprehension_free (use := none) rfl hs (K.base.closure I.ok) K.base.kind K.base.names (thn (hi pins s σ H _ I h) fun v s1 h1 => thn h1 fun itv s2 h2 => ?_)
 obtain ⟨it, fp, tn, J, H2, e, I2, T, st2, f2, n, W, hsz, w0, turn⟩ := h2
 subst e
 refine comp_block2 (RR := fun acc C => compPost (model X.prog X.w) X.A X.xe none (EP X pins σ Q) acc C) K hc I2 hg ht he T st2 f2 hsz (F := fun ys H => ∀ p, H p = none → Q (.ref p) (upd H p (.lst ys))) w0 turn ?_
 intro D C s' H' ys m I' n' fC ns fin
 refine ⟨m, ns, fun h' sb => ?_⟩
 obtain ⟨f0, f1, f2, f3, f4, f5⟩ := fC
 exact ⟨.ref D, _, I'.turned (t' := s'.toks) (it := C) (fun b o hb e => (sb.2 b hb).trans e) f0 f1 f3 f4 f5, rfl, fin D n'⟩
end
end L2
namespace L2
open PySem PySem.Spec PyProof.Rows PySem.Calls
section
variable {X : Cx} {scope : Scope} {x y : Str} {M : List Str} {elt iter : Expr} {ifs : List Expr} {pos p1 p2 p3 : Pos} {kk : Nat} {te : TE} {wi : TI} {tc : TT}
structure CompRT (K : PySem.W.Frag) (J : It) (tc : TT) (te : TE) (σ : St) (H1 : Hp) (Q : VK) : Prop where
 ex : ∃ (n : Nat) (W : Nat → List V → Hp → Prop), n ≤ sizeLine ∧ W 0 [] H1 ∧ ∀ i ys H, i ≤ n → ys.length ≤ i → W i ys H →
   (J.stop i H ∧ ∀ p, H p = none → Q (.ref p) (upd H p (.lst ys))) ∨ (J.go i H ∧ i < n ∧ ∀ z H', J.yld i H z H' → ∃ (p : Addr) (a b : V), z = .ref p ∧ SqT K H' p [a, b] ∧ tc (some a :: some b :: σ) H' fun c H3 => if c = true then te (some a :: some b :: σ) H3 fun z H4 => W (i + 1) (ys ++ [z]) H4 else W (i + 1) ys H3)
def tCompT (K : PySem.W.Frag) (wi : TI) (tc : TT) (te : TE) : TE := fun σ H Q => wi σ H fun J H1 => CompRT K J tc te σ H1 Q
theorem pg_two (K : CompOk2 X scope x y M) (hc : X.calm = true) {C : Addr} {s₂ : Shared} {H₂ : Hp} {fp : List Addr} : PG (compCx2 X scope C x y M s₂ H₂ fp) (.Tuple [.Name x p1, .Name y p2] kk p3) (gTup X.K 2 (gCons (gName 0) (gCons (gName 1) gNil))) :=
 pg_tup (X := compCx2 X scope C x y M s₂ H₂ fp) hc (yD (zS K.nd2 rfl (.inl (lookup_relabel_local K.base.loc)) (.inr (lookup_relabel_local K.base.loc))) (yD (zS K.nd2 rfl (.inl (lookup_relabel_local K.loc2)) (.inr (lookup_relabel_local K.loc2))) xI))
theorem pe_compT (K : CompOk2 X scope x y M) (hc : X.calm = true) (hi : PI X (.Tuple [.Name x p1, .Name y p2] kk p3) iter wi) (ht : ∀ (C : Addr) (s₂ : Shared) (H₂ : Hp) (fp : List Addr), PIfs (compCx2 X scope C x y M s₂ H₂ fp) ifs tc) (he : ∀ (C : Addr) (s₂ : Shared) (H₂ : Hp) (fp : List Addr), PE (compCx2 X scope C x y M s₂ H₂ fp) elt te)
   (hs : ∀ x, foldedSetIterable iter X.env x = pure x := by intro _; rfl) : PE X (.ListComp elt [⟨.Tuple [.Name x p1, .Name y p2] kk p3, iter, ifs, 0⟩] scope pos) (tCompT X.K wi tc te) := by
 intro pins s σ H Q I h
 have q := pe_comp2 (pos := pos) K hc (wi := fun σ0 H0 R0 => ∃ R, wi σ0 H0 R ∧ ∀ J H1, R J H1 → R0 J H1) (pi_conv hi fun σ H R ⟨R1, a, b⟩ => ⟨R1, a, b⟩) (fun C s₂ H₂ fp => pg_two (p1 := p1) (p2 := p2) (p3 := p3) (kk := kk) K hc) ht he hs pins s σ H Q I
 refine q ⟨_, h, fun J H1 r => ?_⟩
 obtain ⟨n, W, h1, h2, h3⟩ := r.ex
 refine ⟨n, W, h1, h2, fun i ys H' hi hy hw => ?_⟩
 rcases h3 i ys H' hi hy hw with hq | ⟨g1, g2, g3⟩
 · exact .inl hq
 · refine .inr ⟨g1, g2, fun z H2 hz u v => ?_⟩
   obtain ⟨p, a, b, e, hq, t⟩ := g3 z H2 hz
   exact ⟨p, [a, b], e, hq, rfl, a, [b], rfl, b, [], rfl, rfl, ⟨_, _, rfl⟩, t⟩
end
theorem comp_listT {K : PySem.W.Frag} {a : Addr} {xs : List V} {tc : TT} {te : TE} {σ : St} {H : Hp} {Q : VK} (hz : xs.length ≤ sizeLine) (W : Nat → List V → Hp → Prop) (h0 : W 0 [] H) (hq : ∀ i ys H, W i ys H → SqL K H a xs)
   (hs : ∀ i x ys H, xs[i]? = some x → ys.length ≤ i → W i ys H → ∃ (p : Addr) (u v : V), x = .ref p ∧ SqT K H p [u, v] ∧ tc (some u :: some v :: σ) H fun c H3 => if c = true then te (some u :: some v :: σ) H3 fun z H4 => W (i + 1) (ys ++ [z]) H4 else W (i + 1) ys H3)
   (hd : ∀ ys H, W xs.length ys H → ∀ p, H p = none → Q (.ref p) (upd H p (.lst ys))) : CompRT K (Itl K a) tc te σ H Q := by
 refine ⟨xs.length, W, hz, h0, fun i ys H hi hl hw => ?_⟩
 have q := hq i ys H hw
 by_cases hlt : i < xs.length
 · refine .inr ⟨⟨xs, xs[i], q, by simp [hlt]⟩, hlt, fun v H' y => ?_⟩
   obtain ⟨e, y⟩ := y
   subst e
   exact hs i v ys _ (y xs q) hl hw
 · have e : i = xs.length := by omega
   subst e
   exact .inl ⟨⟨xs, q, Nat.le_refl _⟩, hd ys H hw⟩
section
variable {prog : Program} {w : World} {A : Around} {E : Value → Shared → Prop} {s : Shared}
end
section
variable {X : Cx}
end
section
variable {X : Cx} {tg : Expr}
end
end L2
namespace L2
open PySem PySem.Spec PyProof.Rows PySem.Calls
end L2
namespace L2
open PySem PySem.Spec PyProof.Rows PySem.Calls
end L2
namespace L2
open PySem PySem.Spec PyProof.Rows PySem.Calls
open PySem.W (tabObj CodeHd kla_obj kla_fn)
structure LamD where
 qual : Str
 params : Arguments
 body : Expr
 scope : Scope
 x : Str
 y : Str
def SameB (P : Addr) (H H' : Hp) : Prop := ∀ b u, b ≠ P → H b = some u → H' b = some u
theorem SameB.trans {P : Addr} {H H1 H2 : Hp} (a : SameB P H H1) (b : SameB P H1 H2) : SameB P H H2 := fun c u n e => b c u n (a c u n e)
theorem SameB.refl {P : Addr} {H : Hp} : SameB P H H := fun _ _ _ e => e
theorem IsCell.one {h1 h2 : Heap} {c : Addr} {v : Option Value} (x : h1.IsCell c v) (k : ∀ o, h1.get? c = some o → h2.get? c = some o) : h2.IsCell c v :=
 let ⟨o, ho, hd⟩ := x; ⟨o, k o ho, hd⟩
structure LamD.Ok (D : LamD) : Prop where
 kind : D.scope.kind = .function
 co : D.scope.isCoroutine = false
 gen : D.scope.isGenerator = false
 names : D.scope.names = [(D.x, .local), (D.y, .free)]
 ne : D.x ≠ D.y
 bind : ∀ (cc : Addr) (pm cdv ct u : Value), bindArgs (kla_fn "<lambda>" D.qual D.params D.body D.scope [(D.y, cc)] pm cdv ct) ⟨[u], []⟩ = pure [(D.x, u)]
theorem LamD.Ok.lx {D : LamD} (O : D.Ok) : D.scope.names.lookup D.x = some .local := by rw [O.names, List.lookup_cons, beq_self_eq_true]
theorem LamD.Ok.ly {D : LamD} (O : D.Ok) : D.scope.names.lookup D.y = some .free := by
 rw [O.names, List.lookup_cons, beq_eq_false_iff_ne.mpr O.ne.symm, List.lookup_cons, beq_self_eq_true]
theorem LamD.Ok.of {D : LamD} (O : D.Ok) {x : Str} {k : NameKind} (h : D.scope.names.lookup x = some k) : (x = D.x ∧ k = .local) ∨ (x = D.y ∧ k = .free) := by
 rw [O.names, List.lookup_cons] at h
 cases e : x == D.x with
 | true => rw [e] at h; cases h; exact .inl ⟨eq_of_beq e, rfl⟩
 | false =>
   rw [e, List.lookup_cons] at h
   cases e2 : x == D.y with
   | true => rw [e2] at h; cases h; exact .inr ⟨eq_of_beq e2, rfl⟩
   | false => rw [e2] at h; cases h
end L2
namespace L2
open PySem PySem.Spec PyProof.Rows PySem.Calls
open PySem.W (tabObj CodeHd kla_obj kla_fn)
end L2
namespace L2
open PySem PySem.Spec PyProof.Rows PySem.Calls
open PySem.W (tabObj CodeHd kla_obj kla_fn)
end L2
namespace L2
open PySem PySem.Spec PyProof.Rows PySem.Calls
section
variable {X : Cx}
end
end L2
namespace L2
open PySem PySem.Spec PyProof.Rows PySem.Calls
section
variable {X : Cx}
end
end L2
namespace L2
open PySem PySem.Spec
theorem ps_no {X : Cx} {s : Stmt} : PS X s (fun _ _ _ => False) := fun _ _ _ _ _ _ h => h.elim
end L2
namespace L2
open PySem PySem.Spec PyProof.Rows PySem.Calls
section
variable {X : Cx}
def TJ := St → Hp → (Hp → Prop) → Prop
def JP (X : Cx) (n : Nat) (es : List Expr) (t : TJ) : Prop := ∀ (out : Str) (pins : List (Addr × Obj)) (s : Shared) (σ : St) (H : Hp) (Q : VK), out.length ≤ n → Inv X pins σ H s → t σ H (fun H1 => ∀ y, Q (.str y) H1) → wpAny (model X.prog X.w) X.A (joinParts out (evalEach es X.env)) (EP X pins σ Q) X.xe s
theorem jp_nil {n : Nat} (hn : n ≤ 16777216 := by symm) : JP X n [] (fun σ H K => K H) := by
 intro out pins s σ H Q ho I h
 refine joinParts_nilE (joinParts_nil ⟨.str _, H, I.tok _, ⟨_, rfl⟩, h _⟩ ?_)
 rw [sizeLine_eq]; omega
theorem jp_c {n : Nat} {c : Str} {j : Nat} {p : Pos} {es : List Expr} {t : TJ} (h : JP X (n + c.length) es t) (hn : n + c.length ≤ 16777216 := by symm) : JP X n (.Constant (.str c) j p :: es) t := by
 intro out pins s σ H Q ho I ht
 have hl : (out ++ c).length ≤ n + c.length := by rw [strLen_append]; omega
 exact joinParts_consE (joinParts_cons (Calls.Constant_str ⟨by rw [sizeLine_eq]; omega, h _ pins _ σ H Q hl (I.tok _) ht⟩))
theorem pe_fstrJ {v1 v2 : Expr} {rest : List Expr} {pos : Pos} {t : TJ} (h : JP X 0 (v1 :: v2 :: rest) t) : PE X (.JoinedStr (v1 :: v2 :: rest) pos) (fun σ H Q => t σ H fun H1 => ∀ y, Q (.str y) H1) := by
 intro pins s σ H Q I ht
 exact JoinedStr_many (h Str.empty pins s σ H Q (Nat.le_refl _) I ht)
end
end L2
namespace L2
open PySem PySem.Spec PyProof.Rows PySem.Calls
section
variable {X : Cx}
theorem pe_no {e : Expr} : PE X e (fun _ _ _ => False) := fun _ _ _ _ _ _ h => h.elim
end
end L2
namespace L2
open PySem PySem.Spec PyProof.Rows PySem.Calls
section
variable {X : Cx} {scope : Scope} {x y : Str} {M : List Str} {tg elt iter : Expr} {ifs : List Expr} {pos p1 p2 p3 : Pos} {kk : Nat} {te : TE} {wi : TI} {tc : TT} {g : TG}
end
end L2
namespace L2
open PySem PySem.Spec PyProof.Rows PySem.Calls
end L2
namespace L2
open PySem PySem.Spec PyProof.Rows PySem.Calls
section
variable {X : Cx} {pins : List (Addr × Obj)} {σ : St} {H : Hp} {s : Shared} {h' : Heap}
theorem Inv.turnedM {t' : Nat} {L : List Addr} (I : Inv X pins σ H s) (k : ∀ b o, b ∉ L → s.heap.get? b = some o → h'.get? b = some o) (hL : ∀ b ∈ L, FpOk X pins H b) : Inv X pins σ H { s with heap := h', toks := t' } := by
 have nit : ∀ b u, H b = some u → b ∉ L := fun b u e z => by have := (hL b z).1; rw [this] at e; cases e
 refine I.step (g' := s.gens) (d' := s.drawn) (ch := L) (fun b hb => ?_) (fun b o _ _ hc e _ => k b o hc e) (fun b o _ _ hc e _ => ⟨o.slots, k b o hc e⟩) (fun _ _ _ _ n => n)
   (fun b o hc e => ⟨o, k b o hc e⟩) (fun _ _ e => e) (fun _ _ _ e => e) (fun b ps e => ⟨#[], by rw [e]; simp⟩) (fun m hm => ?_) (fun b u e => ?_) I.bare
 · obtain ⟨f0, f1, f2, f3, f4, f5⟩ := hL b hb
   exact ⟨f3, f1, f4, f5⟩
 · obtain ⟨o, es, ep, ho, r⟩ := hm
   exact ⟨o, es, ep, k _ o (fun z => (hL _ z).2.1 rfl) ho, r⟩
 · refine (I.hok b u e).stay (fun c v hc q => k c v ?_ q) (fun _ q => q) fun _ _ q => q
   rcases hc with z | z
   · rw [z]; exact nit b u e
   · exact nit c _ z
end
section
variable {X : Cx} {ea eb : Expr} {t : TA} {p pos tp : Pos} {elts : List Expr} {x1 : Nat}
end
end L2
namespace L2
open PySem PySem.Spec PyProof.Rows PySem.Calls
end L2
namespace L2
open PySem PySem.Spec PyProof.Rows PySem.Calls
section
variable {X : Cx} {scope : Scope} {x : Str} {M : List Str} {pins : List (Addr × Obj)} {σ : St} {H₂ : Hp} {s₂ : Shared} {elt iter tg : Expr} {ifs : List Expr} {pos px : Pos} {te : TE} {wi : TI} {g : TG} {tc : TT}
structure CompRF (J : It) (tc : TT) (te : TE) (σ : St) (H1 : Hp) (Q : VK) : Prop where
 ex : ∃ (n : Nat) (W : Nat → List V → Hp → Prop), n ≤ sizeLine ∧ W 0 [] H1 ∧ ∀ i ys H, i ≤ n → ys.length ≤ i → W i ys H →
   (J.stop i H ∧ ∀ p, H p = none → Q (.ref p) (upd H p (.lst ys))) ∨ (J.go i H ∧ i < n ∧ ∀ z H', J.yld i H z H' → tc (some z :: σ) H' fun c H3 => if c = true then te (some z :: σ) H3 fun z H4 => W (i + 1) (ys ++ [z]) H4 else W (i + 1) ys H3)
theorem pifs_eqv {X : Cx} {ifs : List Expr} {t u : TT} (h : PIfs X ifs t) (e : t = u) : PIfs X ifs u := e ▸ h
end
section
variable {X : Cx} {k : Nat} {m : Str} {pos apos : Pos} {o : Expr} {ta : TE}
end
end L2
namespace L2
open PySem PySem.Spec PyProof.Rows PySem.Calls
def Ite (K : PySem.W.Frag) (a : Addr) : It :=
 ⟨fun i H => ∃ xs x, SqL K H a xs ∧ xs[i]? = some x,
  fun i H z H' => ∃ T x, z = .ref T ∧ H T = none ∧ H' = upd H T (.tup [.int i, x]) ∧ ∀ xs, SqL K H a xs → xs[i]? = some x,
  fun i H => ∃ xs, SqL K H a xs ∧ xs.length ≤ i⟩
def EnT (e it a : Addr) (i : Nat) (h : Heap) : Prop := (∃ old, IsEnum h e it i old) ∧ h.IsListIter it a i
theorem turn_enum {P : Program} {w : World} {K : PySem.W.Frag} {elts : List Expr} {x1 : Nat} {tp : Pos} {e it a : Addr} (D : e ≠ it) : Turn P w K (.Tuple elts x1 tp) (Ite K a) [e, it] e (EnT e it a) where
 mem := by simp
 obj := fun i h st c hc => by
   obtain ⟨⟨u, h1⟩, h4⟩ := st
   simp only [List.mem_cons, List.not_mem_nil, or_false] at hc
   rcases hc with q | q
   · subst q; exact ⟨_, h1, fun v q => by cases q⟩
   · subst q; obtain ⟨o, e, c, d⟩ := h4; exact ⟨o, e, fun v q => by rw [d] at q; cases q⟩
 keep := fun i h h' st k => by
   obtain ⟨⟨u, h1⟩, h4⟩ := st
   exact ⟨⟨u, k _ (by simp) _ h1⟩, h4.at fun o q => k it (by simp) o q⟩
 item := by
   intro X hP hw hK hc i pins s σ H E I hf st hg
   subst hP hw hK
   obtain ⟨xs, x, hq, hx⟩ := hg
   obtain ⟨⟨old, h1⟩, h4⟩ := st
   obtain ⟨its, rv, p, hz⟩ := I.list hq
   obtain ⟨u, hu, ru⟩ := rv.get hx
   refine wpAny_pyNext_enum_item h1 h4 p.isList (x := u) (by simpa using hu) D fun h' a1 a2 a3 a4 a5 => ?_
   refine ⟨_, rfl, wpAny_letOwnedTupleGo_enum (s := { s with heap := h', toks := s.toks + 1 }) a1 fun h'' b1 b2 => ?_⟩
   have hT : H s.heap.objs.size = none := I.hok.fresh (Nat.le_refl _)
   have lt : ∀ c ∈ [e, it], c < s.heap.objs.size := fun c hc => by
     simp only [List.mem_cons, List.not_mem_nil, or_false] at hc
     rcases hc with q | q
     · subst q; exact Heap.lt_size h1
     · subst q; obtain ⟨o, q, _⟩ := h4; exact Heap.lt_size q
   have kk : ∀ c o, c ∉ [e, it] → s.heap.get? c = some o → h''.get? c = some o := fun c o hc q => by
     simp only [List.mem_cons, List.not_mem_nil, or_false, not_or] at hc
     exact (b2.2 c hc.1).trans (a5 c o hc.1 hc.2 q)
   have I1 : Inv X pins σ H { s with heap := h'', toks := s.toks + 1 } := I.turnedM (t' := s.toks + 1) kk hf
   have zT : s.heap.objs.size ≠ e := fun q => Nat.lt_irrefl _ (q ▸ lt e (by simp))
   have a5' := (b2.2 _ zT).trans a3
   have I2 := I1.track (a := s.heap.objs.size) (o := .tup [.int i, x]) (I.fpOk (Nat.le_refl _) hT) I.sz ⟨by show 2 ≤ sizeLine; decide, [.int i s.toks, u], .cons ⟨_, rfl⟩ (.cons ru .nil), ⟨_, a5', rfl, _, rfl⟩⟩
   refine ⟨.ref s.heap.objs.size, _, I2, rfl, ⟨_, x, rfl, hT, rfl, fun zs hzs => by rw [I.list_inj hzs hq]; exact hx⟩, ⟨⟨_, b1⟩, a2.at fun o q => (b2.2 _ (Ne.symm D)).trans q⟩, fun c hc => ?_⟩
   rw [zK (Nat.ne_of_lt (lt c hc))]; exact (hf c hc).1
 done := by
   intro X hP hw hK hc i pins s σ H E I hf st hg
   subst hP hw hK
   obtain ⟨xs, hq, hx⟩ := hg
   obtain ⟨⟨old, h1⟩, h4⟩ := st
   obtain ⟨its, rv, p, hz⟩ := I.list hq
   have hl := rv.length
   refine wpAny_pyNext_enum_end (I.ok.hd hc) h1 h4 p.isList (by simp; omega) fun h' a7 => ⟨rfl, I.turnedM (t' := s.toks) (fun c o hc q => ?_) hf⟩
   simp only [List.mem_cons, List.not_mem_nil, or_false, not_or] at hc
   exact a7 c o hc.2 q
 self := fun _ _ _ _ _ st h => by
   obtain ⟨⟨u, h1⟩, _⟩ := st
   exact wpAny_pyIter_enum h1 h
section
variable {X : Cx} {ea : Expr} {t : TA} {p pos tp : Pos} {elts : List Expr} {x1 : Nat}
def iEnum (K : PySem.W.Frag) (t : TA) : TI := fun σ H R => t σ H fun vs H1 => ∃ a, vs = [.ref a] ∧ (∃ xs, SqL K H1 a xs) ∧ R (Ite K a) H1
theorem boot_enum : bootBuiltins "enumerate" = some (.type "enumerate") := by symm
theorem pi_enum (hg : Gl X "enumerate") (hm : X.mg "enumerate" = none) (ha : PA X [ea] t) (hs : starEach [ea] X.env = [(false, eval ea X.env)] := by rfl) :
   PI X (.Tuple elts x1 tp) (.Call (.Name "enumerate" p) [ea] [] pos) (iEnum X.K t) := by
 intro pins s σ H R I h
 refine Call_ (ld_blt I hg hm boot_enum (PyProof.Rows.callWith_type1 (thn (ha pos pins s σ H _ I h) fun us s1 ⟨vs, H1, I1, r1, q1⟩ => ?_) (by rw [hs]; rfl) (by rfl)))
 obtain ⟨a, e, ⟨xs, hq⟩, q⟩ := q1
 subst e
 cases r1 with
 | cons r rr =>
   cases rr
   cases r
   obtain ⟨its, rv, pl, hz⟩ := I1.list hq
   refine call_enumerate_list pl.isList fun h' z1 z2 z3 z7 => ?_
   refine wpAny_pyIter_enum (s := { s1 with heap := h' }) z1 ?_
   have I2 : Inv X pins σ H1 { s1 with heap := h' } := I1.kept (t' := s1.toks) z7
   refine ⟨_, [s1.heap.objs.size + 1, s1.heap.objs.size], _, _, H1, rfl, I2, turn_enum (Nat.succ_ne_self _), ⟨⟨_, z1⟩, z2⟩, fun c hc => ?_, q⟩
   have hle : s1.heap.objs.size ≤ c := by
     simp only [List.mem_cons, List.not_mem_nil, or_false] at hc
     rcases hc with e | e
     · rw [e]; exact Nat.le_succ _
     · rw [e]; exact Nat.le_refl _
   exact I1.fpOk hle (I1.hok.fresh hle)
end
theorem for_enumR {K : PySem.W.Frag} {a : Addr} {xs : List V} {g : TG} {tb : TS} {D : Ends} {σ : St} {H : Hp} (Pv : Nat → St → Hp → Prop) (h0 : Pv 0 σ H) (hq : ∀ i σ H, i ≤ xs.length → Pv i σ H → SqL K H a xs)
   (hs : ∀ i x σ H, xs[i]? = some x → Pv i σ H → ∀ T, H T = none → g (.ref T) σ (upd H T (.tup [.int i, x])) fun σ2 H2 => tb { D with nx := Pv (i + 1), ct := Pv (i + 1), bk := D.nx } σ2 H2) (hd : ∀ σ H, Pv xs.length σ H → D.nx σ H) : ForR (Ite K a) g tb D σ H := by
 refine ⟨fun i m σ H => i ≤ xs.length ∧ m = xs.length - i ∧ Pv i σ H, ⟨_, Nat.zero_le _, rfl, h0⟩, fun i m σ H ⟨hi, hm, hp⟩ => ?_⟩
 have q1 := hq i σ H hi hp
 by_cases c : i = xs.length
 · subst c
   exact .inl ⟨⟨xs, q1, Nat.le_refl _⟩, hd σ H hp⟩
 · have hlt : i < xs.length := by omega
   have hx : xs[i]? = some xs[i] := List.getElem?_eq_getElem hlt
   refine .inr ⟨⟨xs, _, q1, hx⟩, Pv (i + 1), fun σ' H' hn => ⟨xs.length - (i + 1), by omega, by omega, rfl, hn⟩, fun z H' hz => ?_⟩
   obtain ⟨T, x, rfl, hT, rfl, e1⟩ := hz
   exact hs i x σ H (e1 xs q1) hp T hT
end L2
namespace L2
open PySem PySem.Spec PyProof.Rows PySem.Calls
section
variable {X : Cx}
theorem op_in_d (hu : X.A.units + 1 < cLine) : OpR X (compareOp .In) (fun x y H Q => ∃ a o, y = .ref a ∧ DGet H a x o ∧ Q (.bl o.isSome) H) := by
 intro pins s σ H x y v u Q I rx ry h
 obtain ⟨a, o, rfl, g, q⟩ := h
 cases ry
 exact d_in hu I g rx fun s' I' => ⟨.bl _, H, I', rfl, q⟩
theorem op_notIn_d (hu : X.A.units + 1 < cLine) : OpR X (compareOp .NotIn) (fun x y H Q => ∃ a o, y = .ref a ∧ DGet H a x o ∧ Q (.bl (!o.isSome)) H) := by
 intro pins s σ H x y v u Q I rx ry h
 obtain ⟨a, o, rfl, g, q⟩ := h
 cases ry
 exact d_notIn hu I g rx fun s' I' => ⟨.bl _, H, I', rfl, q⟩
end
theorem keys_no : typeLookup (.type "list") "keys" = pure none := by rw [typeLookup_type, builtinLookup_eq_fast]; kernel_rfl
theorem ask_keys {prog : Program} {w : World} {A : Around} {E : Value → Shared → Prop} {s : Shared} {a : Addr} {xs : Array Value} {k : Nat} {sl : Array (Option Value)} {Q : Option Value → Shared → Prop}
   (hx : s.heap.get? a = some ⟨.type "list", none, .seq xs k, sl⟩) (hA : A.handled = none) (h : ∀ h' tk e, Heap.NewExcOf s.heap h' e "AttributeError" → Q none { s with heap := h', toks := tk }) :
   wpAny (model prog w) A (getAttr? (.ref a) "keys") Q E s := by
 obtain ⟨hp, g, d, tk, os⟩ := s
 have ty : ∀ j, (⟨hp, g, d, j, os⟩ : Shared).TypeIs (.ref a) "list" := fun _ => ⟨_, hx, rfl⟩
 have a1 := sub_AttributeError
 have a3 := PySem.F.slot_list_getattribute.lookup
 have a4 := PySem.F.slot_list_getattribute.bind (.ref a)
 have a5 := am_list_getattr_none
 unfold getAttr? getAttrBy? getAttrBy
 repeat (any_goals (first
   | assumption
   | exact ty _
   | ((with_reducible show wpAny _ _ (call (Value.builtin "list.__getattribute__") _ _) _ _ _)
      refine call_meets PySem.F.slot_list_getattribute (ty _) am_entry_list_getattribute (PySem.F.args_list_getattribute_2 _ _) (meets_getattribute_miss_list a xs k sl "keys" _ keys_no (by decide) (by size_fits)) ⟨hx, hA, fun h' tk' e hx' => ?_⟩)
   | wp_step))
 obtain ⟨t', u', he⟩ := hx'.there
 show wpAny _ _ (getattributeRaised _ _ _ _ _ _ _) _ _ _
 unfold getattributeRaised hookOrError
 repeat (any_goals (first | assumption | wp_step))
 exact h _ _ _ hx'.of
theorem ent_loop : entryFor table "dict.update.loop" = some Builtin.«dict.update.loop» := entryFor_of_tree (by kernel_rfl)
end L2
namespace L2
open PySem PySem.Spec PySem.Calls PyProof.Rows
def RawD (h : Heap) (d : Addr) (es : Array DictEntry) (ep : Nat) : Prop := ∃ o, h.get? d = some o ∧ o.ExactDict ∧ o.data = .dict es ep
theorem RawD.keep {h h' : Heap} {d : Addr} {es : Array DictEntry} {ep : Nat} (x : RawD h d es ep) (k : ∀ o, h.get? d = some o → h'.get? d = some o) : RawD h' d es ep := let ⟨o, ho, r⟩ := x; ⟨o, k o ho, r⟩
theorem RawD.lt {h : Heap} {d : Addr} {es : Array DictEntry} {ep : Nat} (x : RawD h d es ep) : d < h.objs.size := let ⟨_, ho, _⟩ := x; Heap.lt_size ho
section
variable {prog : Program} {w : World} {A : Around} {E : Value → Shared → Prop} {s : Shared} {d it : Addr} {es : Array DictEntry} {ep i : Nat}
theorem RawD.ty (x : RawD s.heap d es ep) : s.TypeIs (.ref d) "dict" := let ⟨o, ho, c, _⟩ := x; ⟨o, ho, c.1⟩
end
section
variable {X : Cx} {pos : Pos}
end
end L2
namespace L2
open PySem PySem.Spec PySem.Calls PySem.W PyProof.Rows
inductive KAll (n : Nat) {α : Type} (R : α → Prop) : KasT α → Prop
 | ret {a : α} : R a → KAll n R (.ret a)
 | ask {i j : Nat} {k : Bool → KasT α} : i < n → j < n → (∀ b, KAll n R (k b)) → KAll n R (.ask i j k)
theorem KAll.bind {n : Nat} {α β : Type} {R : α → Prop} {S : β → Prop} {f : α → KasT β} {t : KasT α} (h : KAll n R t) (k : ∀ a, R a → KAll n S (f a)) : KAll n S (t.bind f) := by
 induction h with
 | ret r => exact k _ r
 | ask hi hj _ ih => exact .ask hi hj ih
def PlG (n : Nat) (p : Array Nat) : Prop := p.size = n ∧ ∀ x ∈ p, x < n
theorem PlG.at {n : Nat} {p : Array Nat} (h : PlG n p) (hn : 0 < n) (k : Nat) : p.getD k 0 < n := by
 rw [Array.getD_eq_getD_getElem?]
 by_cases hk : k < p.size
 · rw [Array.getElem?_eq_getElem hk]; exact h.2 _ (Array.getElem_mem hk)
 · rw [Array.getElem?_eq_none (by omega)]; exact hn
end L2
namespace L2
open PySem PySem.Spec PySem.Calls PySem.W PyProof.Rows
section
variable {prog : Program} {w : World} {A : Around} {E : Value → Shared → Prop} {s : Shared}
def IsTT (h : Heap) (v : Value) : Prop := ∃ x o q t tq tt m, v = .ref x ∧ h.get? x = some o ∧ o.cls = .type "tuple" ∧ o.data = .seq #[.str q tq, .str t tt] m
theorem IsTT.keep {h h' : Heap} {v : Value} (x : IsTT h v) (k : ∀ b o, h.get? b = some o → o.cls = .type "tuple" → h'.get? b = some o) : IsTT h' v := let ⟨a, o, q, t, tq, tt, m, e, ho, hc, r⟩ := x; ⟨a, o, q, t, tq, tt, m, e, k _ _ ho hc, hc, r⟩
end
end L2
namespace L2
open PySem PySem.Spec PyProof.Rows PySem.Calls
section
variable {X : Cx} {scope : Scope} {x y z : Str} {M : List Str} {elt iter : Expr} {ifs : List Expr} {pos p1 p2 p3 p4 : Pos} {kk : Nat} {te : TE} {wi : TI} {tc : TT}
structure CompRT3 (K : PySem.W.Frag) (J : It) (tc : TT) (te : TE) (σ : St) (H1 : Hp) (Q : VK) : Prop where
 ex : ∃ (n : Nat) (W : Nat → List V → Hp → Prop), n ≤ sizeLine ∧ W 0 [] H1 ∧ ∀ i ys H, i ≤ n → ys.length ≤ i → W i ys H →
   (J.stop i H ∧ ∀ p, H p = none → Q (.ref p) (upd H p (.lst ys))) ∨ (J.go i H ∧ i < n ∧ ∀ z H', J.yld i H z H' → ∃ (p : Addr) (a b d : V), z = .ref p ∧ SqT K H' p [a, b, d] ∧ tc (some a :: some b :: σ) H' fun c H3 => if c = true then te (some a :: some b :: σ) H3 fun z H4 => W (i + 1) (ys ++ [z]) H4 else W (i + 1) ys H3)
end
end L2
namespace L2
open PySem PySem.Spec PyProof.Rows PySem.Calls PySem.W PySem.Builtin PySem.Builtin.ObjectAttr PySem.Builtin.Getset_descriptor
structure ExcGet (K : PySem.W.Frag) (D : Addr) (f : Str) : Prop where
 ga : findIn K (.ref D) "__getattribute__" = some (some (.builtin "BaseException.__getattribute__"))
 gk : findIn K (.ref D) "__getattr__" = some none
 hd : hasDictIn K D = true
 at_ : findIn K (.ref D) f = some none
 mb : mroIn K D (.type "BaseException") = some true
section
variable {prog : Program} {w : World} {A : Around} {E : Value → Shared → Prop} {s : Shared} {K : PySem.W.Frag} {x D : Addr} {ox : Obj} {od : Obj} {name : Str} {v : Value}
theorem excGet_call {tk : Tok} {R : Result → Shared → Prop} (c : ExcGet K D name) (X : K.In s.heap) (J : PySem.W.InstAt s.heap x ox D (some od)) (hl : lookIn name od = some (some v)) (q : R (.ok (.ret v)) s) :
   codeAny (model prog w) A (.call (.builtin "BaseException.__getattribute__") ⟨[.ref x, .str name tk], []⟩) R s := by
 obtain ⟨hh, g, d, t, os⟩ := s
 have t0 := J.type (M := model prog w)
 have lb := looks_mroIn (M := model prog w) X c.mb
 have f0 := looks_find (M := model prog w) X J (findObj_own c.hd c.at_ rfl hl)
 have hk : builtinKind "BaseException.__getattribute__" = some .slot := by symm
 have hsplit : splitId "BaseException.__getattribute__" = some ("BaseException", "__getattribute__") := by symm
 have ha := F.args_bexc_ga (.ref x) (.str name tk)
 refine codeAny_call_builtin F.excAttr_ValueError.ga.plain F.entry_bexc_ga ?_
 simp only [checkBuiltinCall, hk, hsplit]
 unfold isInstance
 refine wpAny_bind ?_
 repeat lk
 exact q
theorem excGet_ok {expr : Bool} {Q : Value → Shared → Prop} (c : ExcGet K D name) (X : K.In s.heap) (J : PySem.W.InstAt s.heap x ox D (some od)) (hl : lookIn name od = some (some v)) (hv : handedIn v = true) (q : Q v { s with toks := s.toks + 1 }) :
   wpAny (model prog w) A (getAttr (.ref x) name expr) Q E s := by
 obtain ⟨hh, g, d, t, os⟩ := s
 have t0 := J.type (M := model prog w)
 have t1 := looks_findIn (M := model prog w) X c.ga
 have f1 := looks_findIn (M := model prog w) X c.gk
 have f3 := F.excAttr_ValueError.ga.bind (.ref x)
 unfold getAttr getAttrBy
 refine wpAny_bind (wpAny_mkText (wpAny_holding (wpAny_bind (t0.at (wpAny_bind (t1.at ?_))))))
 show wpAny _ _ (getAttrByItsOwn _ _ _ _ _ _) _ _ _
 unfold getAttrByItsOwn hookBefore
 refine wpAny_bind (f1.at (wpAny_bind (wpAny_attempt (wpAny_holding ?_))))
 unfold callGetattribute
 rw [show (expr && onTheHeap (Value.builtin "BaseException.__getattribute__")) = false from Bool.and_false _, if_neg (by decide)]
 show wpAny _ _ (boundAndCalled _ _ _) _ _ _
 unfold boundAndCalled
 rw [f3]
 refine wpAny_bind (wpAny_pure (wpAny_call ?_))
 refine excGet_call c (s := ⟨hh, g, d, t + 1, os⟩) X J hl ?_
 show wpAny _ _ (handedOut v) _ _ _
 rw [handedOut_of hv]; exact wpAny_pure q
def excMro : List Value → Bool
 | .ref _ :: r => excMro r
 | l => l == mroVE
theorem refuse_exc (self : Value) : ∀ {l : List Value}, excMro l = true → refuseLoop self "__setattr__" l = pure ()
 | .ref c :: r, e => by rw [refuseLoop_ref]; exact refuse_exc self (l := r) e
 | [], e => by cases e
 | .type n :: r, e => by
   have q : (Value.type n :: r) = mroVE := by simpa [excMro] using e
   rw [q]; exact PySem.F.store_ValueError.passes self
 | .none :: r, e => by have q := e; simp [excMro, mroVE] at q
 | .ellipsis :: r, e => by have q := e; simp [excMro, mroVE] at q
 | .notImplemented :: r, e => by have q := e; simp [excMro, mroVE] at q
 | .bytes _ _ :: r, e => by have q := e; simp [excMro, mroVE] at q
 | .bool _ :: r, e => by have q := e; simp [excMro, mroVE] at q
 | .int _ _ :: r, e => by have q := e; simp [excMro, mroVE] at q
 | .str _ _ :: r, e => by have q := e; simp [excMro, mroVE] at q
 | .float _ _ :: r, e => by have q := e; simp [excMro, mroVE] at q
 | .builtin _ :: r, e => by have q := e; simp [excMro, mroVE] at q
structure ExcSet (K : PySem.W.Frag) (D : Addr) (f : Str) : Prop where
 sa : findIn K (.ref D) "__setattr__" = some (some (.builtin "object.__setattr__"))
 hd : hasDictIn K D = true
 at_ : findIn K (.ref D) f = some none
 mr : (clsIn K D).any (fun cd => excMro cd.mro) = true
 mo : mroIn K D (.type "object") = some true
theorem excSet_ok {Q : Unit → Shared → Prop} (c : ExcSet K D name) (X : K.In s.heap) (hx : s.heap.get? x = some ox) (hc : ox.cls = .ref D) (hd : ox.dict = none) (hf : ∃ vs, ox.data = .fields vs)
   (q : ∀ h' dx mA, s.heap.objs.size ≤ dx → h'.get? x = some { ox with dict := some dx } → h'.Ns1 dx mA → mA = (fun y => if y = name then some v else none) → (∀ b o, b ≠ x → s.heap.get? b = some o → h'.get? b = some o) → Q () { s with heap := h', toks := s.toks + 2 }) :
   wpAny (model prog w) A (setAttr (.ref x) name v) Q E s := by
 have J : PySem.W.InstAt s.heap x ox D none := ⟨hx, hc, (by obtain ⟨vs, z⟩ := hf; unfold notCls; rw [z]), (by rw [hd]; exact True.intro)⟩
 refine set_plain X J c.sa ?_
 have SF := PySem.F.store_object
 obtain ⟨cd, hcd, ho⟩ := any_some c.mr
 obtain ⟨cd', hcd', hdd⟩ := any_some c.hd
 obtain rfl : cd = cd' := Option.some.inj (hcd.symm.trans hcd')
 have sub : Looks (model prog w) s.heap (isInstance (.ref x) (.type "object")) true := J.type.andThen (looks_mroIn X c.mo)
 refine codeAny_call_builtin SF.slot.plain SF.entry (@check_slot (model prog w) _ _ { s with toks := s.toks + 1 } "object.__setattr__" "object" "__setattr__" (.ref x) [.str name s.toks, v] [] _ SF.kind SF.split sub (SF.args (.ref x) (.str name s.toks) v) ?_)
 have hm : Looks (model prog w) s.heap (mroOf (.ref D)) cd.mro := (looks_clsIn X hcd).andThen .now
 obtain ⟨hh, g, d, t, os⟩ := s
 dsimp only at X hx J hm sub
 have T0 := J.type (M := model prog w)
 rw [osa_eq, refuse_eq]
 refine wpAny_bind (wpAny_bind (T0.at (wpAny_bind (hm.at ?_))))
 rw [refuse_exc _ ho]
 refine wpAny_pure (wpAny_bind (T0.at (wpAny_bind ((looks_findIn X c.at_).at (wpAny_bind (wpAny_pure ?_))))))
 show wpAny _ _ (storeInOwnDict _ _ _ _ _ _) _ _ _
 obtain ⟨oc, odi, oda, osl⟩ := ox
 dsimp only at hc hd hf
 subst hc hd
 obtain ⟨vs, rfl⟩ := hf
 refine wpAny_bind (wpAny_pure (wpAny_bind (wpAny_bind (wpAny_loadPart hx (wpAny_bind ((looks_clsIn X hcd).at ?_))))))
 rw [hdd]
 have hx1 := Heap.get?_push_of_some (h := hh) { cls := .type "dict", data := .dict #[] } hx
 have nx : x ≠ hh.objs.size := Nat.ne_of_lt (Heap.lt_size hx)
 refine wpAny_bind (wpAny_alloc' ?_)
 refine wpAny_bind (wpAny_update' hx1 ?_)
 refine wpAny_pure ?_
 show wpAny _ _ (storeInDict hh.objs.size (.str name _) name v) _ _ _
 unfold storeInDict newKeyGuard
 have gd : ((hh.push { cls := .type "dict", data := .dict #[] }).update x fun o => { cls := o.cls, dict := some hh.objs.size, data := o.data, slots := o.slots }).get? hh.objs.size
     = some { cls := .type "dict", data := .dict #[] } :=
   (Heap.get?_update_ne _ _ _ _ nx.symm).trans (Heap.get?_push_at rfl rfl)
 have nd : ((hh.push { cls := .type "dict", data := .dict #[] }).update x fun o => { cls := o.cls, dict := some hh.objs.size, data := o.data, slots := o.slots }).Ns hh.objs.size (fun _ => none) :=
   ⟨_, #[], _, gd, rfl, fun e he => absurd he (by simp), fun _ => rfl⟩
 refine wpAny_bind (wpAny_pure (wpAny_bind (wpAny_nsSet1 (Heap.Ns1.of_empty nd) fun h' hn' hs => ?_)))
 obtain ⟨oD, esD, epD, hoD, hdD, hcD⟩ := hn'.count (Within.cons name v Within.nil)
 refine wpAny_bind (wpAny_lookBehind hoD (by rw [hdD]; exact pastItsLine_dict (Nat.le_trans hcD (by rw [List.length_cons, List.length_nil, sizeLine_eq]; omega))) ?_)
 refine wpAny_pure (q h' hh.objs.size _ (Nat.le_refl _) ?_ hn' rfl fun b o n e => ?_)
 · exact (hs.2 x nx).trans (Heap.get?_update_self _ hx1 rfl)
 · exact (hs.2 b (Nat.ne_of_lt (Heap.lt_size e))).trans ((Heap.get?_update_ne _ _ _ _ n).trans (Heap.get?_push_of_some _ e))
end
end L2
namespace L2
open PySem PySem.Spec PyProof.Rows PySem.Calls PySem.W PySem.Builtin PySem.Builtin.ObjectAttr PySem.Builtin.Getset_descriptor
def excInI (K : PySem.W.Frag) (C : Addr) : Bool := match K.lookup C with
 | some ⟨.type "type", _, .cls cd, sl⟩ => (match cd.mro, sl.toList with
   | .ref C' :: bm, [_, _, _, _, some (.builtin n), _] => C' == C && n == "ValueError.__new__" && !cd.hasDel && tailIn K mroVE bm
   | _, _ => false)
 | _ => false
theorem own_objI {K : PySem.W.Frag} {h : Heap} {C : Addr} (X : K.In h) (q : excInI K C = true) :
   ∃ bm N nm qn bs hdct sn sub ab col dd k0 k1 k2 k3 k5, h.get? C = some (excClassObj nm qn C N bs bm hdct sn sub ab col dd k0 k1 k2 k3 k5 "ValueError.__new__") ∧ OwnTail h mroVE bm := by
 unfold excInI at q
 split at q
 · rename_i dd cl sl ho
   split at q
   · rename_i C' bm k0 k1 k2 k3 n k5 hm hs
     simp only [Bool.and_eq_true, Bool.not_eq_true', beq_iff_eq] at q
     obtain ⟨⟨⟨e1, e2⟩, e3⟩, e4⟩ := q
     subst e1 e2
     obtain ⟨c1, c2, c3, c4, c5, c6, c7, c8, c9, c10, c11⟩ := cl
     dsimp only at hm e3; subst hm e3
     have es : sl = #[k0, k1, k2, k3, some (.builtin "ValueError.__new__"), k5] := by
       cases sl with | mk l => (simp only at hs; rw [hs])
     subst es
     exact ⟨bm, c4, c1, c5, c2, c6, c7, c8, c9, c10, dd, k0, k1, k2, k3, k5, X _ _ ho, tail_of_in X e4⟩
   · cases q
 · cases q
def exObj (C : Addr) (dct : Option Addr) (t : Addr) : Obj := { cls := .ref C, dict := dct, data := .fields #[.ref t, .none, .none, .none, .bool false, .none] }
section
variable {prog : Program} {w : World} {A : Around} {E : Value → Shared → Prop} {s : Shared} {K : PySem.W.Frag} {C fI : Addr}
theorem exc_make {rest : List Value} {Q : Value → Shared → Prop} (X : K.In s.heap) (hc : excInI K C = true) (hi : findIn K (.ref C) "__init__" = some (some (.ref fI))) (hf : isFn K (.ref fI) = true)
   (hrest : rest.length ≤ sizeLine)
   (hq : ∀ h' e t, s.heap.objs.size ≤ e → h'.get? e = some (exObj C none t) → (∀ b o, s.heap.get? b = some o → h'.get? b = some o) → h'.objs.size = e + 1 →
     wpAny (model prog w) (A.under (.builtin "type.__call__" ⟨.ref C :: rest, []⟩)) (call (.ref fI) (.ref e :: rest)) (fun r s' => r = .none ∧ Q (.ref e) s') E { s with heap := h' }) :
   wpAny (model prog w) A (call (.ref C) rest) Q E s := by
 obtain ⟨bm, N, nm, qn, bs, hdct, sn, sub, ab, col, dd, k0, k1, k2, k3, k5, hC, T⟩ := own_objI X hc
 obtain ⟨h, g, d, t, os⟩ := s
 dsimp only at X hC T hq
 have FB := PySem.F.excBase_ValueError
 have f1 := tc_lookup
 have f2 := tc_bind (.ref C)
 have hT : (⟨h, g, d, t, os⟩ : Shared).TypeIs (.ref C) "type" := ⟨_, hC, rfl⟩
 refine wpAny_call (codeAny_of_tree ?_)
 show wpAny _ _ (callAny (.ref C) _) _ _ _
 repeat (any_goals (first | assumption | with_reducible refine wpAny_loadPart_at hC ?_ | wp_step))
 refine ⟨rfl, ?_⟩
 refine codeAny_call_builtin_at (Code.quiet_builtin _ (by symm)) entry_typeCall (wpAny_check_type_call_sub hC ?_)
 repeat (first | with_reducible refine wpAny_loadPart_at hC ?_ | with_reducible refine wpAny_madeBy_exc hC ?_ | wp_step)
 refine codeAny_call_builtin_code (Code.quiet_builtin _ FB.quiet) (wpAny_check_new_subT FB T hC ?_)
 refine codeAny_exc_new_subT FB T hC ?_ hrest
 show wpAny _ _ _ _ _ ⟨(h.push { cls := .type "tuple", data := .seq rest.toArray }).push { cls := .ref C, data := .fields #[.ref h.objs.size, .none, .none, .none, .bool false, .none] }, g, d, t, os⟩
 generalize hh' : (h.push { cls := .type "tuple", data := .seq rest.toArray }).push { cls := .ref C, data := .fields #[.ref h.objs.size, .none, .none, .none, .bool false, .none] } = h'
 have kp : ∀ b o, h.get? b = some o → h'.get? b = some o := fun b o e => by rw [← hh']; exact Heap.get?_push_of_some _ (Heap.get?_push_of_some _ e)
 have hC1 := kp _ _ hC
 have X1 : K.In h' := fun b o e => kp b o (X b o e)
 have hget : h'.get? (h.objs.size + 1) = some (exObj C none h.objs.size) := by rw [← hh']; unfold exObj; heap_get
 have hcC : (Value.ref C :: bm).contains (.ref C) = true := by simp
 have hsz : h'.objs.size = h.objs.size + 1 + 1 := by rw [← hh', Heap.size_push, Heap.size_push]
 have L := looks_findIn (M := model prog w) X1 hi
 have cl : (exObj C none h.objs.size).cls = .ref C := rfl
 unfold isInstance
 repeat (first | (with_reducible refine wpAny_loadPart_at hget ?_; rw [cl]) | (with_reducible refine wpAny_isSubtype_exc hC1 ?_; rw [hcC]) | wp_step)
 show wpAny _ _ (typeLookup (.ref C) _) _ _ _
 refine L.at ?_
 refine wpAny_holding (wpAny_bind ?_)
 refine (bind_fn X1 (.ref (h.objs.size + 1)) (beq_iff_eq.mp hf)).at ?_
 refine wpAny_bind (wpAny_mono (hq h' (h.objs.size + 1) h.objs.size (Nat.le_succ _) hget kp hsz) (fun r s' hr => ?_) fun _ _ x => x)
 obtain ⟨rfl, hQ⟩ := hr
 wp_walk
 exact hQ
end
end L2
namespace L2
open PySem PySem.Spec PyProof.Rows PySem.Calls PySem.W PySem.Builtin PySem.Builtin.ObjectAttr PySem.Builtin.Getset_descriptor
def excN (a C : Addr) (dct : Option Addr) : HO := .ext fun h => ∃ t, h.get? a = some (exObj C dct t)
theorem excN_ok {P : Program} {w : World} {H : Hp} {h : Heap} {a C t : Addr} {dct : Option Addr} (e : h.get? a = some (exObj C dct t)) : ObjOk P w H h a (excN a C dct) :=
 ⟨⟨t, e⟩, ⟨_, e⟩, fun _ _ ⟨u, z⟩ k => ⟨u, k _ z⟩⟩
theorem upd_back {H : Hp} {a : Addr} {o : HO} (h : H a = some o) : upd H a o = H := by
 funext b; unfold upd; split
 · rename_i e; rw [e, h]
 · rfl
def hid (H : Hp) (a : Addr) : Hp := fun b => if b = a then none else H b
structure BInit (K : PySem.W.Frag) (C : Addr) : Prop where
 rd : PySem.W.readsIn K C (.type "type") = true
 at_ : PySem.W.findCls K (.ref C) (.type "type") "__init__" = some (.val (.builtin "ValueError.__init__"))
 sp : PySem.W.specialIn K (.ref C) "__getattribute__" = some (some (.builtin "type.__getattribute__"))
section
variable {X : Cx} {pos apos np : Pos} {e : Expr} {es : List Expr} {t : TA} {x : Str} {C0 : Addr}
def tBInit (K : PySem.W.Frag) (t : TA) : TE := fun σ H Q => t σ H fun vs H1 => ∃ a C m, vs = [.ref a, m] ∧ H1 a = some (excN a C none) ∧ excInI K C = true ∧ Q .non H1
theorem pe_binit {pl : Sem Bool} (c : BInit X.K C0) (hg : Gl X x) (hmg : X.mg x = some (.ref C0)) (ha : PA X (e :: es) t) (hd : (x == ("__debug__" : Str)) = false := by decide)
   (hst : starEach (e :: es) X.env = (false, eval e X.env) :: starEach es X.env := by rfl) (hpl : (backTo pos (starEach es X.env)).any (·.1) = false := by rfl)
   (ht : eval (.Call (.Attribute (.Name x np) "__init__" apos) (e :: es) [] pos) X.env = (do
     let ov ← eval (.Name x np) X.env
     standAt apos.atName
     let (f, first) ← holding [ov] (getMethod ov "__init__" pl)
     callWith pos f first (backTo pos (starEach (e :: es) X.env)) (backToKw pos (keywordEach [] X.env))) := by rfl) :
   PE X (.Call (.Attribute (.Name x np) "__init__" apos) (e :: es) [] pos) (tBInit X.K t) := by
 intro pins s σ H Q I h
 refine PySem.W.methodCall_KW (pl := pl) (xO I hg hmg ?_ hd) ht
 refine PySem.W.method_cls I.kIn c.sp (PySem.W.cls_value (s := s) I.kIn c.rd c.at_ rfl ?_)
 refine PyProof.Rows.callWith_builtin1 (thn (ha pos pins _ σ H _ (I.tok _) h) fun us s2 ⟨vs, H2, I2, r, a, C, m, ev, ea, hc, q⟩ => ?_) hst hpl
 subst ev
 obtain ⟨u1, u2, rfl, r1, r2⟩ := vals2 r
 cases (show u1 = Value.ref a from r1)
 obtain ⟨⟨t0, e0⟩, _⟩ := (show ObjOk X.prog X.w H2 s2.heap a (excN a C none) from I2.hok a _ ea)
 obtain ⟨bm, N, nm, qn, bs, hdct, sn, sub, ab, col, dd, k0, k1, k2, k3, k5, hC, T⟩ := own_objI I2.kIn hc
 have FB := PySem.F.excBase_ValueError
 obtain ⟨hh, g, d, tk, os⟩ := s2
 dsimp only at e0 hC T
 refine wpAny_call (codeAny_call_builtin FB.init.plain FB.initEntry (wpAny_check_init_subT FB T hC e0 rfl ?_))
 have e1 := Heap.get?_push_of_some { cls := .type "tuple", data := .seq [u2].toArray } e0
 unfold Builtin.«BaseException.__init__» Builtin.BaseException.bexcPut
 wp_walk
 have na : a ≠ hh.objs.size := Nat.ne_of_lt (Heap.lt_size e0)
 refine ⟨.non, H2, ?_, rfl, q⟩
 have W := I2.write (x := a) (e := a) (o := excN a C none) (t' := tk) (h' := (hh.push { cls := .type "tuple", data := .seq [u2].toArray }).update a (Obj.mapFields (·.setIfInBounds 0 (Value.ref hh.objs.size)))) (by rw [ea]; exact True.intro) (.inl rfl)
   (fun b u n z => (Heap.get?_update_other _ _ (Ne.symm n)).trans (Heap.get?_push_of_some _ z)) ⟨_, Heap.get?_update_self _ e1 rfl⟩ (excN_ok (t := hh.objs.size) (Heap.get?_update_self _ e1 rfl))
 rw [upd_back ea] at W
 exact W
end
end L2
namespace L2
open PySem PySem.Spec PyProof.Rows PySem.Calls PySem.W PySem.Builtin
section
variable {X : Cx} {pins : List (Addr × Obj)} {σ : St} {H : Hp} {s : Shared} {o value : Expr} {f : Str} {pos pos' : Pos} {ta tv : TE}
def sFldX (K : PySem.W.Frag) (ta tv : TE) (f : Str) : TS := fun D σ H => tv σ H fun y H1 => ta σ H1 fun x H2 => ∃ a C, x = .ref a ∧ H2 a = some (excN a C none) ∧ ExcSet K C f ∧
 ∀ dx, H2 dx = none → dx ≠ a → D.nx σ (upd (upd H2 a (excN a C (some dx))) dx (.xd [(f, y)]))
theorem ps_fldX (ha : PE X o ta) (hv : PE X value tv) (hex : X.ex = []) (hs : swapsWith value (some (.Attribute o f pos')) pos.line X.env = pure false) : PS X (.Assign [.Attribute o f pos'] value pos) (sFldX X.K ta tv f) := by
 intro pins s σ H D I h
 refine plainObj_wpAny_Assign_Attribute (thn (hv pins s σ H _ I h) fun u s1 ⟨y, H1, I1, ry, q⟩ => thn (ha pins s1 σ H1 _ I1 q) fun ov s2 ⟨x, H2, I2, rx, a, C, ex, ea, c, q2⟩ => ?_) hs
 subst ex
 obtain rfl : ov = Value.ref a := rx
 obtain ⟨⟨t0, e0⟩, _⟩ := (show ObjOk X.prog X.w H2 s2.heap a (excN a C none) from I2.hok a _ ea)
 refine excSet_ok c I2.kIn e0 rfl rfl ⟨_, rfl⟩ fun h' dx mA hp ex ns em k => ?_
 have fx : H2 dx = none := I2.hok.fresh hp
 have ne : dx ≠ a := Ne.symm (zI ea fx)
 refine ⟨σ, _, ?_, q2 dx fx ne⟩
 have W := I2.write (x := a) (e := a) (o := excN a C (some dx)) (t' := s2.toks + 2) (h' := h') (by rw [ea]; exact True.intro) (.inl rfl) (fun b u n z => k b u n z) ⟨_, ex⟩ (excN_ok (t := t0) ex)
 have big : ∀ b o, s2.heap.get? b = some o → b ≠ dx := fun b o z => Nat.ne_of_lt (Nat.lt_of_lt_of_le (Heap.lt_size z) hp)
 refine W.trackN (by rw [zK ne]; exact fx) (fun b ob z => ?_) ?_ (fun y c z => ?_) (fun p hp => ?_) ⟨mA, ns, fun g => ?_⟩
 · obtain ⟨o', e'⟩ := I2.base.there b ob z (by rw [hex]; exact fun z => nomatch z)
   exact big b o' e'
 · obtain ⟨m, ⟨o, _, _, e, _⟩, _⟩ := I2.loc
   exact big _ o e
 · obtain ⟨v, o, e', _⟩ := I2.cell y c z
   exact big c o e'
 · exact big p.1 p.2 (I2.pin p hp).1
 · rw [em]
   show RelO (List.lookup g [(f, y)]) (if g = f then some u else none)
   by_cases z : g = f
   · subst z; rw [if_pos rfl, List.lookup_cons, beq_self_eq_true]; exact ry
   · rw [if_neg z, List.lookup_cons, beq_false_of_ne z]; exact True.intro
def tFldX (K : PySem.W.Frag) (ta : TE) (f : Str) : TE := fun σ H Q => ta σ H fun x H1 => ∃ a D dx fs v, x = .ref a ∧ H1 a = some (excD a D dx) ∧ H1 dx = some (.xd fs) ∧ ExcGet K D f ∧ fs.lookup f = some v ∧ Q v H1
theorem pe_fldX {e : Expr} (he : PE X e ta) (hb : attributeBase e f X.env (eval e X.env) = eval e X.env) : PE X (.Attribute e f pos) (tFldX X.K ta f) := by
 intro pins s σ H Q I h
 refine attr_of hb (thn (he pins s σ H _ I h) fun u s1 ⟨x, H1, I1, rx, a, D, dx, fs, v, ex, ea, ed, c, l, q⟩ => ?_)
 subst ex
 obtain rfl : u = Value.ref a := rx
 obtain ⟨⟨ob, e1, e2, e3, vs, e4⟩, _⟩ := (show ObjOk X.prog X.w H1 s1.heap a (excD a D dx) from I1.hok a _ ea)
 obtain ⟨mA, ns, r⟩ := (show ObjOk X.prog X.w H1 s1.heap dx (.xd fs) from I1.hok dx _ ed)
 obtain ⟨w', hw, rw'⟩ := RelO.some_of (v := v) (o := mA f) (by rw [← l]; exact r f)
 obtain ⟨od, ho, hl⟩ := lookIn_ns ns
 refine excGet_ok c I1.kIn ⟨e1, e2, (by unfold notCls; rw [e4]), (by rw [e3]; exact ho)⟩ (by rw [hl, hw]) (handed_of rw') ?_
 exact ⟨v, H1, I1.tok _, rw', q⟩
end
section
variable {P : Program} {w : World} {K : PySem.W.Frag} {mg : Str → Option Value} {base : Heap} {N : List Str} {qual : Str} {scope : Scope} {f : Addr} {cdv : Value} {A : Around} {outer : List Env} {s : Shared} {H : Hp} {E : XK}
theorem xe_madeI {pins : List (Addr × Obj)} {σ : St} {H1 : Hp} {s1 : Shared} {e C dx : Addr} (I : Inv (cxOf (CXW P w) P w K mg base N qual scope f cdv A outer s H E) pins σ H1 s1)
   (he : H1 e = some (excN e C (some dx))) (new : ∀ b o, s.heap.get? b = some o → b ≠ e) (hE : E (.ref C) (some dx) (hid H1 e)) : (cxOf (CXW P w) P w K mg base N qual scope f cdv A outer s H E).xe (.ref e) s1 := by
 obtain ⟨⟨t0, e0⟩, _⟩ := (show ObjOk P w H1 s1.heap e (excN e C (some dx)) from I.hok e _ he)
 have hst := I.stack
 have hin : ∀ env ∈ (cxOf (CXW P w) P w K mg base N qual scope f cdv A outer s H E).stack, ∀ b, env.frame = some b → b ∈ frs (cxOf (CXW P w) P w K mg base N qual scope f cdv A outer s H E).stack := fun env he b hb => List.mem_filterMap.mpr ⟨env, he, hb⟩
 have ntr : e ∉ frs (cxOf (CXW P w) P w K mg base N qual scope f cdv A outer s H E).stack := fun z => by rw [I.stkFree e z] at he; cases he
 generalize hB : PySem.W.hideAll s1.heap (e :: frs (cxOf (CXW P w) P w K mg base N qual scope f cdv A outer s H E).stack) = B
 have stB : B.StaysIn s1.heap := fun b o q => by rw [← hB] at q; exact PySem.W.of_hideAll _ q
 have getB : ∀ b o, s1.heap.get? b = some o → b ≠ e → b ∉ frs (cxOf (CXW P w) P w K mg base N qual scope f cdv A outer s H E).stack → B.get? b = some o := fun b o q n1 n => by
   rw [← hB]; exact PySem.W.hideAll_get _ q fun z => (List.mem_cons.mp z).elim n1 n
 have frB : s1.heap.FunFrames B (cxOf (CXW P w) P w K mg base N qual scope f cdv A outer s H E).stack := by rw [← hB]; exact PySem.W.funFrames_hide hst fun env he b hb => List.mem_cons_of_mem _ (hin env he b hb)
 have noL : ∀ b o, s.heap.get? b = some o → b ∉ frs outer → b ∉ frs (cxOf (CXW P w) P w K mg base N qual scope f cdv A outer s H E).stack := fun b o q n z => by
   rcases List.mem_cons.mp (I.stkSub b z) with z | z
   · have : b < s.heap.objs.size := Heap.lt_size q
     have a := I.ok.above
     rw [← z] at a
     exact absurd (Nat.lt_of_lt_of_le this a) (Nat.lt_irrefl _)
   · exact n z
 have fe : B.get? e = none := by
   cases q : B.get? e with
   | none => rfl
   | some o => rw [← hB, PySem.W.hideAll_none _ (List.mem_cons_self)] at q; cases q
 show wpAny (model P w) _ (leaving (envOfC qual scope s.heap.objs.size f cdv) (.ref e)) _ _ _
 refine leaveFirstD (base := B) (outer := outer) I.ok.frames frB rfl e0 stB fe rfl rfl fun h2 fl up => ?_
 have nx : ∀ b u, H1 b = some u → b ≠ e → hid H1 e b = some u := fun b u z n => by unfold hid; rw [if_neg n]; exact z
 refine ⟨e, .ref C, some dx, hid H1 e, B, rfl, fl, I.os, I.bare, fun a o q => ?_, ⟨fun b o q n hb => ?_, fun b o q hb => ?_, fun b o q n hb => ?_, fun b o q n => ?_, fun b xs q => ?_, fun b o u q => ?_, fun b ps q => ?_⟩, hE⟩
 · have na : a ≠ e := fun z => by subst z; unfold hid at q; rw [if_pos rfl] at q; cases q
   have q' : H1 a = some o := by unfold hid at q; rw [if_neg na] at q; exact q
   refine (I.hok a o q').stay (fun b u hb z => getB b u z (fun y => ?_) fun m => ?_) (fun b z => nx b _ z fun y => ?_) (fun b xs z => nx b _ z fun y => ?_)
   · rcases hb with r | r
     · exact na (r.symm.trans y)
     · rw [y, he] at r; cases r
   · have z := I.stkFree b m
     rcases hb with r | r
     · rw [r, q'] at z; cases z
     · rw [r] at z; cases z
   · rw [y, he] at z; cases z
   · rw [y, he] at z; cases z
 · exact getB b o (I.base.keep b o q n hb (fun z => nomatch z)) (new b o q) (noL b o q hb)
 · obtain ⟨o', q'⟩ := I.base.there b o q (fun z => nomatch z)
   exact ⟨o', getB b o' q' (new b o q) (noL b o q hb)⟩
 · obtain ⟨sl, q'⟩ := I.base.slot b o q n hb (fun z => nomatch z)
   obtain ⟨_, o2, ho2, hd2⟩ := I.funs.mem hb
   rw [q'] at ho2; cases ho2
   obtain ⟨sl', z⟩ := up b _ q' hd2
   exact ⟨sl', z⟩
 · have z := I.base.free b o q n (fun z => nomatch z)
   unfold hid; split
   · rfl
   · exact z
 · exact nx b _ (I.base.tups b xs q) fun y => by have z := I.base.tups b xs q; rw [y, he] at z; cases z
 · exact nx b _ (I.base.frzs b o u q) fun y => by have z := I.base.frzs b o u q; rw [y, he] at z; cases z
 · obtain ⟨m1, e1⟩ := I.base.tbls b ps q
   exact ⟨m1, nx b _ e1 fun y => by rw [y, he] at e1; cases e1⟩
end
end L2
namespace L2
open PySem PySem.Spec PyProof.Rows PySem.Calls PySem.W PySem.Builtin
theorem passW0' {X : Cx} {o : List Env} {H : Hp} {s s' : Shared} {e : Value} (h : CXW X.prog X.w o H s E0 e s') : False := by
 obtain ⟨_, _, _, _, _, _, _, _, _, _, _, z⟩ := h
 exact z
theorem raiseStmt_X {K : PySem.W.Frag} {M : Model} {A : Around} {E : Value → Shared → Prop} {env : Env} {s : Shared} {x : Sem Value} {Q : Flow → Shared → Prop} {C : Addr} (hh : A.handled = none) (hc : excInI K C = true)
   (h : wpAny M A x (fun v s₁ => ∃ e t dct, v = .ref e ∧ K.In s₁.heap ∧ s₁.heap.get? e = some (exObj C dct t) ∧ E (.ref e) s₁) E s) : wpAny M A (raiseStmt env (some x) none) Q E s := by
 unfold raiseStmt
 refine wpAny_bind (wpAny_mono h (fun v s₁ h₁ => ?_) fun _ _ x => x)
 obtain ⟨e, t, dct, rfl, X, he, hE⟩ := h₁
 obtain ⟨bm, N, nm, qn, bs, hdct, sn, sub, ab, col, dd, k0, k1, k2, k3, k5, hC, T⟩ := own_objI X hc
 have hcB : (Value.ref C :: bm).contains (.type "BaseException") = true := by rw [List.contains_cons, T.hasType PySem.F.excBase_ValueError.hasBase, Bool.or_true]
 obtain ⟨hp, g, d, tk, os⟩ := s₁
 have cl : (exObj C dct t).cls = .ref C := rfl
 unfold exObj at he
 repeat (first | with_reducible refine wpAny_loadPart_at he ?_ | with_reducible refine wpAny_loadPart_at hC ?_ | (with_reducible refine wpAny_isSubtype_exc hC ?_; rw [hcB]) | wp_step)
 exact wpAny_raiseNew_none hh hE
section
variable {P : Program} {w : World} {K : PySem.W.Frag} {mg : Str → Option Value} {base : Heap} {N : List Str} {qual : Str} {scope : Scope} {f : Addr} {cdv : Value} {A : Around} {outer : List Env} {s : Shared} {H : Hp} {E : XK}
structure MkX (K : PySem.W.Frag) (C f : Addr) : Prop where
 ex : excInI K C = true
 init : PySem.W.findIn K (.ref C) "__init__" = some (some (.ref f))
 fn : PySem.W.isFn K (.ref f) = true
 kp : PySem.W.keepIn K (.ref C) = true
def tRaiseI (E : XK) (C : Addr) (sp : Sp) (t : TA) : TS := fun _ σ H => t σ H fun vs H1 => vs.length ≤ sizeLine ∧ ∀ e, H1 e = none →
 sp (.ref e :: vs) (upd H1 e (excN e C none)) (fun v H2 => v = .non ∧ ∃ dx, H2 e = some (excN e C (some dx)) ∧ E (.ref C) (some dx) (hid H2 e)) E0
theorem ps_raiseI {x : Str} {C fI : Addr} {np cpos pos : Pos} {e₀ : Expr} {rest : List Expr} {t : TA} {fd : FuncData} {ps : List Str} {sp : Sp} {k : Nat} (Mx : MkX K C fI) (F : FnOk P w K mg base (CXW P w) k fI fd ps sp) (hr : Room (k + 1) (cxOf (CXW P w) P w K mg base N qual scope f cdv A outer s H E).A)
   (hb : Binds K fd ps []) (hm : mg x = some (.ref C)) (ha : PA (cxOf (CXW P w) P w K mg base N qual scope f cdv A outer s H E) (e₀ :: rest) t) (hg : Gl (cxOf (CXW P w) P w K mg base N qual scope f cdv A outer s H E) x)
   (he : starEach (e₀ :: rest) (envOfC qual scope s.heap.objs.size f cdv) = (false, eval e₀ (envOfC qual scope s.heap.objs.size f cdv)) :: starEach rest (envOfC qual scope s.heap.objs.size f cdv) := by rfl)
   (hpl : (backTo cpos (starEach rest (envOfC qual scope s.heap.objs.size f cdv))).any (·.1) = false := by rfl) (hd : (x == ("__debug__" : Str)) = false := by decide) :
   PS (cxOf (CXW P w) P w K mg base N qual scope f cdv A outer s H E) (.Raise (some (.Call (.Name x np) (e₀ :: rest) [] cpos)) none pos) (tRaiseI E C sp t) := by
 intro pins s1 σ H1 D I h
 have hand : (cxOf (CXW P w) P w K mg base N qual scope f cdv A outer s H E).A.handled = none := I.ok.hd rfl
 rw [arm_exec_Raise]
 refine wpAny_bind (wpAny_standAt ?_)
 simp only [evalOpt, Option.map]
 refine raiseStmt_X (K := K) (C := C) hand Mx.ex (wpAny_bind (wpAny_mono (wpAny_Call_ofName (xO I hg hm ?_ hd)) (fun v s₃ h₃ => wpAny_bind (wpAny_standAt (wpAny_pure h₃))) fun _ _ x => x))
 refine PySem.W.callWith_K (h₀ := base) I.ok.mod.kin Mx.kp (thn (ha cpos pins s1 σ H1 _ I h) fun us s2 ⟨vs, H2, I2, r, hl, q⟩ => ⟨I2.kIn, ?_⟩) he hpl
 refine exc_make I2.kIn Mx.ex Mx.init Mx.fn (by rw [List.nil_append, ← r.length]; exact hl) fun h' e t0 hp ee kp sz => ?_
 have fe : H2 e = none := I2.hok.fresh hp
 have I3 : Inv (cxOf (CXW P w) P w K mg base N qual scope f cdv A outer s H E) pins σ (upd H2 e (excN e C none)) { s2 with heap := h', toks := s2.toks } := I2.laid kp hp (excN_ok ee)
 have q' := q e fe
 have r2 : Vals (V.ref e :: vs) (Value.ref e :: us) := .cons rfl r
 have hl2 : (Value.ref e :: us).length = ps.length := by rw [← r2.length]; exact F.len _ _ _ _ q'
 have hb' := hb { s2 with heap := h' } (Value.ref e :: us) I3.kIn (by rw [List.append_nil]; exact hl2)
 rw [List.append_nil] at hb'
 refine wpAny_call (codeAny_mono (F.run _ _ _ _ ⟨Value.ref e :: us, []⟩ (Value.ref e :: us) _ _ E0 (hr.make C us []) (I3.env0.make C us []) hb' r2 q') fun r' s' hq' => ?_)
 cases r' with
 | error ex => exact (passW0' (X := cxOf (CXW P w) P w K mg base N qual scope f cdv A outer s H E) hq').elim
 | ok fl =>
   cases fl with
   | ret u =>
     obtain ⟨v, H4, I4, rv, ev, dx, e4, q4⟩ := I3.after hq'
     subst ev
     cases (show u = Value.none from rv)
     obtain ⟨⟨t1, e1⟩, _⟩ := (show ObjOk P w H4 s'.heap e (excN e C (some dx)) from I4.hok e _ e4)
     refine ⟨rfl, e, t1, some dx, rfl, I4.kIn, e1, xe_madeI I4 e4 (fun b o z => ?_) q4⟩
     obtain ⟨o', z'⟩ := I2.base.there b o z (fun z => nomatch z)
     exact Nat.ne_of_lt (Nat.lt_of_lt_of_le (Heap.lt_size z') hp)
   | next => exact False.elim hq'
   | brk => exact False.elim hq'
   | cont => exact False.elim hq'
end
end L2
namespace L2
open PySem PySem.Spec PyProof.Rows PySem.Calls
section
variable {X : Cx}
theorem jp_s {n : Nat} {e : Expr} {te : TE} {p : Pos} {es : List Expr} {t : TJ} (he : PE X e te) (h : JP X (n + 100000) es t) (hn : n + 100000 ≤ 16777216 := by symm) :
   JP X n (.FormattedValue e (-1) none p :: es) (fun σ H K => te σ H fun x H1 => ∃ z, x = .str z ∧ z.length ≤ 100000 ∧ t σ H1 K) := by
 intro out pins s σ H Q ho I ht
 refine joinParts_consE (joinParts_cons (FormattedValue_plain (thn (he pins _ σ H _ I ht) fun v s1 ⟨x, H1, I1, r, z, ex, hz, q⟩ => ?_)))
 subst ex
 obtain ⟨t', rfl⟩ := r
 have hl2 : (out ++ z).length ≤ n + 100000 := by rw [strLen_append]; omega
 refine formatField_str (fun t' tk => ⟨?_, h _ pins _ σ H1 Q hl2 (I1.tok _) q⟩) ?_
 · rw [sizeLine_eq]; omega
 · rw [sizeLine_eq]; omega
variable {tg : Expr}
end
end L2
namespace L2
open PySem PySem.Spec PyProof.Rows PySem.Calls PySem.W
section
variable {K : PySem.W.Frag} {C A0 fI : Addr} {xo : Value} {xd : Option Addr} {cd cdA : ClassData} {sl : Array (Option Value)}
theorem arr6 {sl : Array (Option Value)} (hn : sl.size = 6) {v : Option Value} (h4 : sl[4]? = some v) : ∃ k0 k1 k2 k3 k5, sl.toList = [k0, k1, k2, k3, v, k5] := by
 obtain ⟨l⟩ := sl
 match l, hn with
 | [a, b, c, d, e, f], _ =>
   have : e = v := by simpa using h4
   subst this
   exact ⟨_, _, _, _, _, rfl⟩
theorem tail_self (h : excIn K A0 mroVE "ValueError.__new__" = true) (hc : clsIn K A0 = some cdA) (hm : cdA.mro = .ref A0 :: mroVE) : tailIn K mroVE (.ref A0 :: mroVE) = true := by
 unfold excIn at h
 split at h
 · rename_i dd cd sl ho
   have e : cd = cdA := by unfold clsIn at hc; rw [ho] at hc; exact Option.some.inj hc
   subst e
   split at h
   · rename_i C' bm k0 k1 k2 k3 n k5 hm' hs
     simp only [Bool.and_eq_true, Bool.not_eq_true', beq_iff_eq] at h
     obtain ⟨⟨⟨⟨⟨e1, e2⟩, e3⟩, e4⟩, e5⟩, e6⟩ := h
     have base : tailIn K mroVE mroVE = true := by unfold tailIn; rfl
     unfold tailIn
     dsimp only
     rw [ho]
     simp only [Bool.or_eq_true, Bool.and_eq_true, beq_iff_eq]
     exact .inr ⟨⟨e5, e6⟩, base⟩
   · cases h
 · cases h
theorem excInI_mk (l : K.lookup C = some ⟨xo, xd, .cls cd, sl⟩) (ht : xo = .type "type") (hm : cd.mro = .ref C :: .ref A0 :: mroVE) (hn : sl.size = 6 ∧ sl[4]? = some (some (.builtin "ValueError.__new__"))) (hd : cd.hasDel = false)
   (x : excIn K A0 mroVE "ValueError.__new__" = true) (hc : clsIn K A0 = some cdA) (hmA : cdA.mro = .ref A0 :: mroVE) : excInI K C = true := by
 subst ht
 obtain ⟨k0, k1, k2, k3, k5, hs⟩ := arr6 hn.1 hn.2
 unfold excInI
 rw [l]
 simp only [hm, hs]
 rw [tail_self x hc hmA, hd]
 simp
theorem excMro_mk (l : K.lookup C = some ⟨xo, xd, .cls cd, sl⟩) (hm : cd.mro = .ref C :: .ref A0 :: mroVE) : (clsIn K C).any (fun cd => excMro cd.mro) = true := by
 unfold clsIn
 rw [l]
 show excMro cd.mro = true
 rw [hm]
 show (mroVE == mroVE) = true
 exact beq_self_eq_true _
end
section
variable {X : Cx} {scope : Scope} {x : Str} {M : List Str} {pins : List (Addr × Obj)} {σ : St} {H₂ : Hp} {s₂ : Shared} {elt iter tg : Expr} {ifs : List Expr} {pos px : Pos} {te : TE} {wi : TI} {g : TG} {tc : TT}
end
end L2
namespace L2
open PySem PySem.Spec PyProof.Rows PySem.Calls
theorem dict_keep {prog : Program} {w : World} {h h' : Heap} {d : Addr} {kvs : List (Key × Value)} (x : h.DictOf (mixKind prog w) d kvs) (k : ∀ o, h.get? d = some o → h'.get? d = some o) : h'.DictOf (mixKind prog w) d kvs :=
 let ⟨o, es, ep, ho, r⟩ := x; ⟨o, es, ep, k o ho, r⟩
theorem dict_loop {prog : Program} {w : World} {A : Around} {R : Result → Shared → Prop} {d it l : Addr} {items : Array Value} {rows : List (Key × Value)} {res : Value}
   (hdi : d ≠ it) (hdl : d ≠ l) (hil : it ≠ l) (hand : A.handled = none) (hlen : items.size = rows.length) (hz : rows.length ≤ sizeLine) :
   ∀ (k i : Nat) (s : Shared), items.size - i = k → i ≤ items.size → s.heap.IsListIter it l i → s.heap.IsList l items →
     (∀ (j : Nat) (x : Value) (kv : Key × Value), items[j]? = some x → rows[j]? = some kv → ∃ t u, x = .ref t ∧ IsTup s.heap t #[u, kv.2] ∧ (mixKind prog w).is kv.1 u = true ∧ t ≠ d ∧ t ≠ it) →
     s.heap.DictOf (mixKind prog w) d (merged [] (rows.take i)) →
     (∀ h' tk, (∀ b o, b ≠ d → b ≠ it → s.heap.get? b = some o → h'.get? b = some o) → h'.DictOf (mixKind prog w) d (merged [] rows) → R (.ok (.ret res)) { s with heap := h', toks := tk }) →
     codeAny (model prog w) A (.builtin "dict.update.loop" ⟨[.ref d, .ref it, rawInt (i : Nat), res], []⟩) R s := by
 intro k
 induction k with
 | zero =>
   intro i s hk hi hit hl hrow hd hR
   refine codeAny_builtin ent_loop ?_
   rw [Around.under_plainId (by symm)]
   unfold Builtin.«dict.update.loop»
   refine wpAny_bind (wpAny_pyNext_list_end hand hit hl (by rw [Array.getElem?_eq_none]; omega) fun h2 x2 => ?_)
   show wpAny _ _ (Builtin.Dict.addKeywords d [] >>= _) _ _ _
   refine wpAny_bind (wpAny_pure (wpAny_pure (hR h2 s.toks (fun b o _ hb e => x2 b o hb e) ?_)))
   have e1 : rows.take i = rows := List.take_of_length_le (by omega)
   rw [e1] at hd
   exact dict_keep hd fun o e => x2 d o hdi e
 | succ k ih =>
   intro i s hk hi hit hl hrow hd hR
   have hlt : i < items.size := by omega
   obtain ⟨x, hx⟩ : ∃ x, items[i]? = some x := ⟨_, Array.getElem?_eq_getElem hlt⟩
   obtain ⟨kv, hkv⟩ : ∃ kv, rows[i]? = some kv := ⟨_, List.getElem?_eq_getElem (by omega)⟩
   obtain ⟨t, u, rfl, ht, hu, htd, hti⟩ := hrow i x kv hx hkv
   refine codeAny_builtin ent_loop ?_
   rw [Around.under_plainId (by symm)]
   unfold Builtin.«dict.update.loop»
   refine wpAny_bind (wpAny_pyNext_list_item hit hl hx fun h1 it1 sb1 => ?_)
   obtain ⟨ot, hot, hct, nt, hdt⟩ := id ht
   have hot1 : h1.get? t = some ot := (sb1.2 t hti).trans hot
   show wpAny _ _ (holding [Value.ref t] _ >>= _) _ _ _
   refine wpAny_bind (wpAny_holding ?_)
   refine wpAny_bind (wpAny_tryCatch ?_)
   unfold Builtin.Dict.pairItems
   refine wpAny_bind (wpAny_typeOf (T := "tuple") ⟨_, hot1, hct⟩ ?_)
   rw [if_pos (by decide)]
   refine wpAny_bind (wpAny_seqItems hot1 hdt ?_)
   refine wpAny_pure ?_
   show wpAny _ _ (holding [u, kv.2] (dictSet d u kv.2)) _ _ _
   have hle : (merged ([] : List (Key × Value)) (rows.take i)).length ≤ sizeLine := by
     have e1 := merged_length_le ([] : List (Key × Value)) (rows.take i)
     have e2 := List.length_take_le i rows
     have e3 : ([] : List (Key × Value)).length = 0 := rfl
     have e4 : (rows.take i).length ≤ rows.length := List.length_take_le' i rows
     omega
   refine wpAny_holding (wpAny_dictSet_pairs (s := { s with heap := h1 }) (kvs := merged [] (rows.take i)) hu (dict_keep hd fun o e => (sb1.2 d hdi).trans e) (fun h2 d2 sb2 => ?_) hle)
   refine wpAny_pure ⟨plainId_quiet (by symm) _, ?_⟩
   have hk2 : ∀ b o, b ≠ d → b ≠ it → s.heap.get? b = some o → h2.get? b = some o := fun b o n1 n2 e => (sb2.2 b n1).trans ((sb1.2 b n2).trans e)
   refine ih (i + 1) _ (by omega) hlt ?_ ?_ ?_ ?_ ?_
   · obtain ⟨oi, hoi, r⟩ := it1
     exact ⟨oi, (sb2.2 it (Ne.symm hdi)).trans hoi, r⟩
   · obtain ⟨ol, hol, r⟩ := hl
     exact ⟨ol, hk2 l _ (Ne.symm hdl) (Ne.symm hil) hol, r⟩
   · intro j x kv hx hkv
     obtain ⟨t, u, e, ⟨o, ho, r⟩, hu, n1, n2⟩ := hrow j x kv hx hkv
     exact ⟨t, u, e, ⟨o, hk2 t _ n1 n2 ho, r⟩, hu, n1, n2⟩
   · rw [merged_take_succ _ _ _ _ hkv]; exact d2
   · intro h' tk hk' hd'
     exact hR h' tk (fun b o n1 n2 e => hk' b o n1 n2 (hk2 b o n1 n2 e)) hd'
abbrev mkD (rows : List (Key × V)) : List (Key × V) := mergeK [] rows
def PrR (H : Hp) (x : V) (kv : Key × V) : Prop := ∃ a, x = .ref a ∧ H a = some (.tup [kV kv.1, kv.2])
theorem rows_of {P : Program} {w : World} {H : Hp} {h : Heap} (ok : HOk P w H h) : ∀ {ts : List V} {rows : List (Key × V)} {its : List Value}, Paired (PrR H) ts rows → Vals ts its →
   ∃ vs : List (Key × Value), KV rows vs ∧ ∀ (j : Nat) (x : Value) (kv : Key × Value), its[j]? = some x → vs[j]? = some kv → ∃ t u, x = .ref t ∧ (∃ ys, H t = some (.tup ys)) ∧ IsTup h t #[u, kv.2] ∧ (mixKind P w).is kv.1 u = true
 | _, _, _, .nil, .nil => ⟨[], .nil, fun j x kv e => by simp at e⟩
 | _, _, _, .cons r rs, .cons q qs => by
   obtain ⟨vs, hv, h2⟩ := rows_of ok rs qs
   obtain ⟨a, rfl, ha⟩ := r
   cases q
   obtain ⟨_, us, ru, ht⟩ := (show ObjOk P w H h a (.tup _) from ok a _ ha)
   cases ru with
   | cons r1 ru =>
     cases ru with
     | cons r2 ru =>
       cases ru
       refine ⟨(_, _) :: vs, .cons ⟨rfl, r2⟩ hv, fun j x kv e1 e2 => ?_⟩
       cases j with
       | zero =>
         cases e1; cases e2
         exact ⟨a, _, rfl, ⟨_, ha⟩, ht, kV_is r1⟩
       | succ j => exact h2 j x kv e1 e2
theorem call_dict_pairs {X : Cx} (hc : X.calm = true) : CallR X (.type "dict") (fun xs H Q => ∃ p ts rows, xs = [.ref p] ∧ H p = some (.lst ts) ∧ Paired (PrR H) ts rows ∧ ∀ d, H d = none → Q (.ref d) (upd H d (.dK (mkD rows)))) := by
 intro pins s σ H xs us Q I r h
 obtain ⟨p, ts, rows, rfl, hp, hrw, q⟩ := h
 obtain ⟨u, rfl, ru⟩ := r.one
 cases ru
 obtain ⟨hz, its, n, rv, ho⟩ := (show ObjOk X.prog X.w H s.heap p (.lst ts) from I.hok p _ hp)
 obtain ⟨vs, hv, hrow⟩ := rows_of I.hok hrw rv
 have big := I.big
 have hand : X.A.handled = none := I.ok.hd hc
 have elen : its.length = vs.length := by rw [← rv.length, ← hv.length]; exact Paired.length hrw
 have hpl := Heap.lt_size ho
 refine callType_codes (Q₁ := fun obj s₁ => obj = .ref s.heap.objs.size ∧ s₁ = { s with heap := s.heap.push { cls := .type "dict", data := .dict #[] } }) PySem.F.kt_called_dict (PySem.F.kt_typeCall_dict_1 _) PySem.F.entry_dict_init (kt_code_dict_new _ ⟨rfl, rfl⟩) ?_
 rintro obj s₁ ⟨rfl, rfl⟩
 have new : (s.heap.push { cls := .type "dict", data := .dict #[] }).DictOf (mixKind X.prog X.w) s.heap.objs.size [] := Heap.DictOf.new s.heap
 refine ⟨new.typeIs, PySem.F.args_dict_init_2 _ _, ?_⟩
 unfold Builtin.«dict.__init__» Builtin.Dict.selfAndRest
 refine wpAny_bind (wpAny_bind (wpAny_notOrdered_dict new.typeIs ?_))
 show wpAny _ _ (pure (s.heap.objs.size, [Value.ref p])) _ _ _
 refine wpAny_pure ?_
 show wpAny _ _ (Builtin.Dict.updateFrom "dict.__init__" _ (.ref p) [] .none) _ _ _
 unfold Builtin.Dict.updateFrom
 have ho1 := Heap.get?_push_of_some { cls := .type "dict", data := .dict #[] } ho
 refine wpAny_bind (wpAny_typeOf (T := "list") ⟨_, ho1, rfl⟩ ?_)
 rw [if_pos (by decide)]
 refine wpAny_bind (ask_keys ho1 (show X.A.in1.in1.handled = none from hand) fun h1 tk1 e1 x1 => ?_)
 rw [if_pos (by rfl)]
 have ho2 := x1.keeps _ _ ho1
 have hl2 : h1.IsList p its.toArray := ⟨_, ho2, rfl, n, rfl⟩
 refine wpAny_bind (wpAny_rule (wpAny_bind (wpAny_pyIter_list (s := { s with heap := h1, toks := tk1 }) hl2 ?_)))
 have hsz1 : s.heap.objs.size < h1.objs.size := by
   obtain ⟨o, _, _, ho, _⟩ := id new
   exact Heap.lt_size (x1.keeps _ _ ho)
 have kk : ∀ b o, s.heap.get? b = some o → (h1.push { cls := .type "list_iterator", data := .fields #[.ref p, .int 0 0] }).get? b = some o := fun b o e => Heap.get?_push_of_some _ (x1.keeps b o (Heap.get?_push_of_some _ e))
 refine wpAny_pure ⟨plainId_quiet (by symm) _, ?_⟩
 refine dict_loop (rows := vs) (l := p) (items := its.toArray) (Nat.ne_of_lt hsz1) (Nat.ne_of_gt hpl) (Nat.ne_of_gt (Nat.lt_trans hpl hsz1)) (by first | exact hand | (rw [Around.under_plainId (by symm)]; exact hand)) (by simpa using elen) (by rw [← elen, ← rv.length]; exact hz) _ 0 _ rfl (Nat.zero_le _) ?_ ?_ ?_ ?_ ?_
 · exact ⟨_, Heap.get?_push_size _ rfl, rfl, rfl⟩
 · exact ⟨_, kk _ _ ho, rfl, n, rfl⟩
 · intro j x kv e1 e2
   obtain ⟨t, u, ex, ⟨ys, hys⟩, ⟨o, hot, r⟩, hu⟩ := hrow j x kv (by simpa using e1) e2
   have ht := Heap.lt_size hot
   exact ⟨t, u, ex, ⟨o, kk _ _ hot, r⟩, hu, Nat.ne_of_lt ht, Nat.ne_of_lt (Nat.lt_trans ht hsz1)⟩
 · exact dict_keep new fun o e => Heap.get?_push_of_some _ (x1.keeps _ _ e)
 · intro h' tk hk' hd'
   refine ⟨rfl, .ref s.heap.objs.size, _, I.laid (a := s.heap.objs.size) (o := .dK (mkD rows)) (h' := h') (t' := tk) (fun b o e => ?_) (Nat.le_refl _) ⟨?_, beq_eq_false_iff_ne.mpr (Ne.symm (Nat.ne_of_lt big)), _, KV.merge hv .nil, hd'⟩, rfl, q _ (I.hok.fresh (Nat.le_refl _))⟩
   · have hb := Heap.lt_size e
     exact hk' b o (Nat.ne_of_lt hb) (Nat.ne_of_lt (Nat.lt_trans hb hsz1)) (kk b o e)
   · refine Nat.le_trans (length_mergeK rows []) ?_
     rw [List.length_nil, Nat.zero_add, hv.length, ← elen, ← rv.length]; exact hz
def Itm (a : Addr) (o : Obj) : It :=
 ⟨fun i H => ∃ kvs, H a = some (.frz o (.dK kvs)) ∧ i < kvs.length,
  fun i H z H' => ∃ T p, z = .ref T ∧ H T = none ∧ H' = upd H T (.tup [kV p.1, p.2]) ∧ ∀ kvs, H a = some (.frz o (.dK kvs)) → kvs[i]? = some p,
  fun i H => ∃ kvs, H a = some (.frz o (.dK kvs)) ∧ kvs.length ≤ i⟩
theorem frz_at {P : Program} {w : World} {H : Hp} {h : Heap} {a : Addr} {o : Obj} {kvs : List (Key × V)} {es : Array DictEntry} {ep : Nat} (hd : o.data = .dict es ep) (ok : ObjOk P w H h a (.frz o (.dK kvs))) :
   ∃ vs, KV kvs vs ∧ h.DictAt (mixKind P w) a vs ep ∧ es.size = kvs.length := by
 obtain ⟨e, _, _, vs, rv, o', es', ep', e', x, d', k', pr, nd⟩ := ok
 rw [e] at e'
 cases e'
 rw [hd] at d'
 cases d'
 exact ⟨vs, rv, ⟨o, es, e, x, hd, k', pr, nd⟩, by rw [← Array.length_toList, pr.length, ← rv.length]⟩
theorem key_rel {P : Program} {w : World} {k : Key} {u : Value} (hk : (mixKind P w).is k u = true) : RelV (kV k) u := by
 rw [mixKind_is] at hk
 rcases yG hk with ⟨i, u, e, z⟩ | ⟨x, u, e, z⟩
 · rw [e, z]; exact ⟨u, rfl⟩
 · rw [e, z]; exact ⟨u, rfl⟩
theorem kv_get {kvs : List (Key × V)} {vs : List (Key × Value)} (r : KV kvs vs) : ∀ {i : Nat} {p : Key × V}, kvs[i]? = some p → ∃ v, vs[i]? = some (p.1, v) ∧ RelV p.2 v := by
 induction r with
 | nil => intro i p h; simp at h
 | @cons a b as bs h _ ih =>
   intro i p e
   cases i with
   | zero => cases e; exact ⟨b.2, by rw [h.1]; rfl, h.2⟩
   | succ i => exact ih e
theorem turn_items {P : Program} {w : World} {K : PySem.W.Frag} {elts : List Expr} {x1 : Nat} {tp : Pos} {a it : Addr} {o : Obj} {es : Array DictEntry} {ep : Nat} (hd : o.data = .dict es ep) :
   Turn P w K (.Tuple elts x1 tp) (Itm a o) [it] it (fun i h => (∃ ok ov, IsItemIter h it a i es.size ep ok ov) ∧ i ≤ es.size) where
 mem := by simp
 obj := fun i h st b hb => by
   have e : b = it := by simpa using hb
   subst e
   obtain ⟨⟨k, v, q⟩, _⟩ := st
   exact ⟨_, q, fun v z => by cases z⟩
 keep := fun i h h' st k => by
   obtain ⟨⟨ok, ov, q⟩, z⟩ := st
   exact ⟨⟨ok, ov, k it (by simp) _ q⟩, z⟩
 item := by
   intro X hP hw hK hc i pins s σ H E I hf st hg
   subst hP hw hK
   obtain ⟨kvs, hq, hi⟩ := hg
   obtain ⟨vs, rv, hat, sz⟩ := frz_at hd (I.hok a _ hq)
   obtain ⟨⟨ok, ov, hit⟩, hle⟩ := st
   have hx : kvs[i]? = some kvs[i] := List.getElem?_eq_getElem hi
   obtain ⟨v, hv, ru⟩ := kv_get rv hx
   rw [sz, rv.length] at hit
   refine wpAny_pyNext_items_item hit hat hv fun key h' hkey ho hT hsz hk => ?_
   refine ⟨_, rfl, wpAny_letOwnedTupleGo_items (s := { s with heap := h' }) ho fun h'' b1 b2 => ?_⟩
   have hN : H s.heap.objs.size = none := I.hok.fresh (Nat.le_refl _)
   have lt : it < s.heap.objs.size := Heap.lt_size hit
   have kk : ∀ c o, c ∉ [it] → s.heap.get? c = some o → h''.get? c = some o := fun c o hc q => by
     simp only [List.mem_cons, List.not_mem_nil, or_false] at hc
     exact (b2.2 c hc).trans (hk c o hc q)
   have I1 : Inv X pins σ H { s with heap := h'' } := I.turnedM (t' := s.toks) kk hf
   have zT : s.heap.objs.size ≠ it := Nat.ne_of_gt lt
   have a5 := (b2.2 _ zT).trans hT
   have I2 := I1.track (a := s.heap.objs.size) (o := .tup [kV kvs[i].1, kvs[i].2]) (I.fpOk (Nat.le_refl _) hN) I.sz ⟨by show 2 ≤ sizeLine; decide, [key, v], .cons (key_rel hkey) (.cons ru .nil), ⟨_, a5, rfl, _, rfl⟩⟩
   rw [← rv.length, ← sz] at b1
   refine ⟨.ref s.heap.objs.size, _, I2, rfl, ⟨_, kvs[i], rfl, hN, rfl, fun zs hzs => by rw [hq] at hzs; cases hzs; exact hx⟩, ⟨⟨_, _, b1⟩, by omega⟩, fun c hc => ?_⟩
   have e : c = it := by simpa using hc
   subst e
   rw [zK (Nat.ne_of_lt lt)]; exact (hf c hc).1
 done := by
   intro X hP hw hK hc i pins s σ H E I hf st hg
   subst hP hw hK
   obtain ⟨kvs, hq, hi⟩ := hg
   obtain ⟨vs, rv, hat, sz⟩ := frz_at hd (I.hok a _ hq)
   obtain ⟨⟨ok, ov, hit⟩, hle⟩ := st
   rw [sz, rv.length] at hit
   obtain ⟨f0, f1, f2, f3, f4, f5⟩ := hf it (by simp)
   exact wpAny_pyNext_items_end (I.ok.hd hc) hit hat (by rw [List.getElem?_eq_none_iff, ← rv.length]; exact hi) fun h' eb => ⟨rfl, I.turned (t' := s.toks) (fun b o hb e => eb b o hb e) f0 f1 f3 f4 f5⟩
 self := fun _ _ _ _ _ st h => by
   obtain ⟨⟨ok, ov, hit⟩, _⟩ := st
   exact PySem.W.kcp_self hit h
section
variable {X : Cx} {o : Expr} {to : TE} {apos cpos tp : Pos} {elts : List Expr} {x1 : Nat}
def iItems (to : TE) : TI := fun σ H R => to σ H fun x H1 => ∃ a kvs, x = .ref a ∧ Rd H1 a (.dK kvs) ∧ ∀ o, R (Itm a o) (upd H1 a (.frz o (.dK kvs)))
theorem pi_items (ho : PE X o to) (hbase : attributeBase o "items" X.env (eval o X.env) = eval o X.env := by rfl) (hline : (apos.endLine == cpos.line) = true := by rfl) :
   PI X (.Tuple elts x1 tp) (.Call (.Attribute o "items" apos) [] [] cpos) (iItems to) := by
 intro pins s σ H R I h
 refine wpAny_Call_method0_late hbase hline (thn (ho pins s σ H _ I h) fun v s1 ⟨x, H1, I1, r1, q1⟩ => ?_)
 obtain ⟨a, kvs, e, hq, q⟩ := q1
 subst e
 cases r1
 obtain ⟨t1, t2, _⟩ := isD_at I1 (.inl ⟨kvs, hq⟩)
 refine ⟨"dict", "dict.items", PySem.F.plainAttrs_dict, PySem.F.slot_dict_items, PySem.F.type_dict_items, t1, t2, Calls.callWith_builtin rfl (PySem.evalArgs_none ?_)⟩
 obtain ⟨hz, hS, vs, rv, od, es, ep, hod, hx, hdat, hk, hp, hn⟩ := dk_rd I1.hok hq
 have hm : s1.heap.DictOf (mixKind X.prog X.w) a vs := ⟨od, es, ep, hod, hx, hdat, hk, hp, hn⟩
 refine call_meetsIn PySem.F.slot_dict_items t1 PySem.F.entry_dict_items (PySem.F.args_dict_items_1 _) (meets_dict_items (mixKind X.prog X.w) a hS) ⟨⟨vs, hm⟩, ?_⟩
 have I2 : Inv X pins σ (upd H1 a (.frz od (.dK kvs))) s1 := by
   have ok : ObjOk X.prog X.w (upd H1 a (.frz od (.dK kvs))) s1.heap a (.frz od (.dK kvs)) := ⟨hod, hz, hS, vs, rv, od, es, ep, hod, hx, hdat, hk, hp, hn⟩
   rcases hq with hq | ⟨o', hq⟩
   · exact I1.write (x := a) (e := a) (t' := s1.toks) (h' := s1.heap) (by rw [hq]; exact True.intro) (.inl rfl) (fun b u _ z => z) ⟨_, hod⟩ ok
   · obtain ⟨e', _⟩ := (show ObjOk X.prog X.w H1 s1.heap a (.frz o' (.dK kvs)) from I1.hok a _ hq)
     rw [hod] at e'; cases e'
     rw [upd_back hq]; exact I1
 have sz : es.size = vs.length := by rw [← Array.length_toList, hp.length]
 have k1 : ∀ b u, s1.heap.get? b = some u → (s1.heap.push { cls := .type "dict_items", data := .fields #[.ref a] }).get? b = some u := fun b u e => Heap.get?_push_of_some _ e
 refine wpAny_pyIter_items (knd := mixKind X.prog X.w) (d := a) (kvs := vs) (ep := ep) (s := { s1 with heap := s1.heap.push { cls := .type "dict_items", data := .fields #[.ref a] } }) ⟨_, Heap.get?_push_size _ rfl, rfl, rfl⟩ ⟨od, es, k1 _ _ hod, hx, hdat, hk, hp, hn⟩ ?_
 have I3 : Inv X pins σ (upd H1 a (.frz od (.dK kvs))) { s1 with heap := s1.heap.push { cls := .type "dict_items", data := .fields #[.ref a] } } := I2.kept (t' := s1.toks) k1
 refine ⟨_, [_], _, _, _, rfl, I3.kept (t' := s1.toks) fun b o e => Heap.get?_push_of_some _ e, turn_items hdat, ⟨⟨.none, .none, by rw [sz]; exact Heap.get?_push_size _ rfl⟩, Nat.zero_le _⟩, fun b hb => ?_, q od⟩
 have e : b = (s1.heap.push { cls := .type "dict_items", data := .fields #[.ref a] }).objs.size := by simpa using hb
 subst e
 exact I3.fpOk (Nat.le_refl _) (I3.hok.fresh (Nat.le_refl _))
end
end L2
namespace L2
open PySem PySem.Spec PyProof.Rows PySem.Calls
theorem vals_of {xs : List V} {us : List Value} (hl : xs.length = us.length) (h : ∀ (i : Nat) x v, xs[i]? = some x → us[i]? = some v → RelV x v) : Vals xs us := by
 induction xs generalizing us with
 | nil =>
   cases us with
   | nil => exact .nil
   | cons _ _ => simp at hl
 | cons a r ih =>
   cases us with
   | nil => simp at hl
   | cons b t => exact .cons (h 0 a b rfl rfl) (ih (by simpa using hl) fun i x v e1 e2 => h (i + 1) x v e1 e2)
theorem hash_none {prog : Program} {w : World} {A : Around} {E : Value → Shared → Prop} {s : Shared} {Q : Int → Shared → Prop} (h : Q 4238894112 { s with toks := s.toks + 1 }) : wpAny (model prog w) A (pyHash .none) Q E s := by
 unfold pyHash
 have ty : s.TypeIs .none "NoneType" := rfl
 have hv : [Value.none].any Value.onHeap = false := rfl
 show wpAny _ _ (pyHashByItsType .none) _ _ _
 unfold pyHashByItsType
 refine wpAny_bind ?_
 rw [cRoomFor, if_neg (by rw [hv]; exact Bool.false_ne_true)]
 refine wpAny_pure ?_
 refine wpAny_bind (wpAny_specialOf ty PySem.F.slot_NoneType_hash.lookup ?_)
 show wpAny _ _ (if (some (Value.builtin "NoneType.__hash__") == some Value.none) = true then _ else _) Q E s
 rw [if_neg (by rw [beq_builtin_none]; exact Bool.false_ne_true)]
 refine wpAny_bind (wpAny_specialOf ty PySem.F.slot_NoneType_hash.lookup ?_)
 show wpAny _ _ (callSpecialIfBoundUnlessNone? .none "__hash__" _ >>= _) Q E s
 refine wpAny_bind (wpAny_callSpecialIfBoundUnlessNone?_slot ty PySem.F.slot_NoneType_hash (wpAny_call_entry PySem.F.slot_NoneType_hash ty PySem.F.entry_NoneType_hash ?_ (PySem.F.args_NoneType_hash_1 _)))
 unfold Builtin.«NoneType.__hash__»
 refine wpAny_bind (wpAny_pure ?_)
 show wpAny _ _ (do ret (← mkInt 4238894112)) _ _ s
 refine wpAny_ret_mkInt ?_
 show wpAny _ _ (if (decide (-(2 : Int) ^ 63 ≤ 4238894112) && decide ((4238894112 : Int) < 2 ^ 63)) = true then _ else _) Q E _
 rw [if_pos (by decide)]
 exact wpAny_pure h
def optIs : Option Key → Value → Bool
 | none, .none => true
 | some k, v => keyIs k v
 | _, _ => false
theorem yT : ∀ {k : Option Key} {v : Value}, optIs k v = true → (k = none ∧ v = Value.none) ∨ ∃ q, k = some q ∧ keyIs q v = true
 | none, v, h => by
   cases v <;> first | exact .inl ⟨rfl, rfl⟩ | exact nomatch h
 | some q, v, h => .inr ⟨q, rfl, by simpa [optIs] using h⟩
theorem key_some (a b : Key) : decide ((some a : Option Key) = some b) = decide (a = b) := by
 by_cases e : a = b
 · subst e; simp
 · rw [decide_eq_false e, decide_eq_false (fun q => e (Option.some.inj q))]
theorem key_ns (b : Key) : decide ((none : Option Key) = some b) = false := decide_eq_false (fun q => nomatch q)
theorem key_sn (b : Key) : decide ((some b : Option Key) = none) = false := decide_eq_false (fun q => nomatch q)
def optKind (prog : Program) (w : World) : PySem.KeyKind prog w (Option Key) where
 is := optIs
 hash := fun | none => 4238894112 | some k => keyH w k
 inj := fun v a b ha hb => by
   rcases yT ha with ⟨rfl, rfl⟩ | ⟨p, rfl, hp⟩
   · rcases yT hb with ⟨rfl, _⟩ | ⟨q, rfl, hq⟩
     · rfl
     · rcases yG hq with ⟨_, _, _, e⟩ | ⟨_, _, _, e⟩ <;> exact nomatch e
   · rcases yT hb with ⟨rfl, rfl⟩ | ⟨q, rfl, hq⟩
     · rcases yG hp with ⟨_, _, _, e⟩ | ⟨_, _, _, e⟩ <;> exact nomatch e
     · rw [(mixKind prog w).inj v p q hp hq]
 byValue := fun k v h => by
   rcases yT h with ⟨rfl, rfl⟩ | ⟨p, rfl, hp⟩
   · rfl
   · exact (mixKind prog w).byValue p v hp
 pyHash := fun hv h => by
   rcases yT hv with ⟨rfl, rfl⟩ | ⟨p, rfl, hp⟩
   · exact hash_none h
   · exact (mixKind prog w).pyHash hp h
 eqBool := fun hu hv h => by
   rcases yT hu with ⟨rfl, rfl⟩ | ⟨p, rfl, hp⟩
   · rcases yT hv with ⟨rfl, rfl⟩ | ⟨q, rfl, hq⟩
     · exact (SeqAt.EqAt.same _) _ _ _ _ h
     · rw [key_ns] at h
       rcases yG hq with ⟨j, u, rfl, rfl⟩ | ⟨y, u, rfl, rfl⟩
       · exact SeqAt.EqAt.none_int j u _ _ _ _ h
       · exact SeqAt.EqAt.none_str y u _ _ _ _ h
   · rcases yT hv with ⟨rfl, rfl⟩ | ⟨q, rfl, hq⟩
     · rw [key_sn] at h
       rcases yG hp with ⟨j, u, rfl, rfl⟩ | ⟨y, u, rfl, rfl⟩
       · exact SeqAt.EqAt.int_none j u _ _ _ _ h
       · exact SeqAt.EqAt.str_none y u _ _ _ _ h
     · rw [key_some] at h; exact (mixKind prog w).eqBool hp hq h
 «strs» := fun k x t v h => by
   rcases yT h with ⟨rfl, e⟩ | ⟨p, rfl, hp⟩
   · exact nomatch e
   · exact (mixKind prog w).strs p x t v hp
theorem pairs_opt {prog : Program} {w : World} : ∀ {es : List DictEntry} {vs : List (Key × Value)}, Pairs (mixKind prog w) es vs → Pairs (optKind prog w) es (vs.map fun p => (some p.1, p.2))
 | _, _, .nil => .nil
 | _, _, .cons hk hh t => .cons hk hh (pairs_opt t)
theorem dictOf_opt {prog : Program} {w : World} {h : Heap} {d : Addr} {vs : List (Key × Value)} (x : h.DictOf (mixKind prog w) d vs) : h.DictOf (optKind prog w) d (vs.map fun p => (some p.1, p.2)) := by
 obtain ⟨o, es, ep, ho, hc, hd, hk, hp, hn⟩ := x
 refine ⟨o, es, ep, ho, hc, hd, fun e he => ?_, pairs_opt hp, ?_⟩
 · obtain ⟨k, h1, h2⟩ := hk e he
   exact ⟨some k, h1, h2⟩
 · rw [List.map_map]
   have : ((fun x : Option Key × Value => x.1) ∘ fun p : Key × Value => (some p.1, p.2)) = (fun k => some k) ∘ fun p : Key × Value => p.1 := rfl
   rw [this, ← List.map_map]
   exact List.Pairwise.map _ (fun a b ne e => ne (Option.some.inj e)) hn
theorem val_none (vs : List (Key × Value)) : valueAt (vs.map fun p => ((some p.1 : Option Key), p.2)) none = none := by
 induction vs with
 | nil => rfl
 | cons a r ih =>
   unfold valueAt at ih ⊢
   rw [List.map_cons, List.find?_cons, key_sn]
   exact ih
section
variable {X : Cx}
theorem op_in_n : OpR X (compareOp .In) (fun x y H Q => ∃ a kvs, x = .non ∧ y = .ref a ∧ Rd H a (.dK kvs) ∧ Q (.bl false) H) := by
 intro pins s σ H x y v u Q I rx ry h
 obtain ⟨a, kvs, rfl, rfl, g, q⟩ := h
 cases rx
 cases ry
 obtain ⟨z, hd, vs, rel, dd⟩ := dk_rd I.hok g
 refine wpAny_in_of (knd := optKind X.prog X.w) (k := none) rfl hd (dictOf_opt dd).mapOf ?_
 rw [val_none]
 exact ⟨.bl false, H, I.tok _, rfl, q⟩
theorem op_notIn_n : OpR X (compareOp .NotIn) (fun x y H Q => ∃ a kvs, x = .non ∧ y = .ref a ∧ Rd H a (.dK kvs) ∧ Q (.bl true) H) := by
 intro pins s σ H x y v u Q I rx ry h
 obtain ⟨a, kvs, rfl, rfl, g, q⟩ := h
 cases rx
 cases ry
 obtain ⟨z, hd, vs, rel, dd⟩ := dk_rd I.hok g
 refine wpAny_notIn_of (knd := optKind X.prog X.w) (k := none) rfl hd (dictOf_opt dd).mapOf ?_
 rw [val_none]
 exact ⟨.bl true, H, I.tok _, rfl, q⟩
theorem op_orR {op : Value → Value → Sem Value} {r r' : V → V → Hp → VK → Prop} (h : OpR X op r) (h' : OpR X op r') : OpR X op (fun x y H Q => r x y H Q ∨ r' x y H Q) := by
 intro pins s σ H x y v u Q I rx ry q
 rcases q with q | q
 · exact h pins s σ H x y v u Q I rx ry q
 · exact h' pins s σ H x y v u Q I rx ry q
theorem op_inO (hu : X.A.units + 1 < cLine) : OpR X (compareOp .In) (fun x y H Q => (∃ a o, y = .ref a ∧ DGet H a x o ∧ Q (.bl o.isSome) H) ∨ ∃ a kvs, x = .non ∧ y = .ref a ∧ Rd H a (.dK kvs) ∧ Q (.bl false) H)
 := op_orR (op_in_d hu) op_in_n
theorem op_notInO (hu : X.A.units + 1 < cLine) : OpR X (compareOp .NotIn) (fun x y H Q => (∃ a o, y = .ref a ∧ DGet H a x o ∧ Q (.bl (!o.isSome)) H) ∨ ∃ a kvs, x = .non ∧ y = .ref a ∧ Rd H a (.dK kvs) ∧ Q (.bl true) H)
 := op_orR (op_notIn_d hu) op_notIn_n
theorem call_list_dict (hc : X.calm = true) : CallR X (.type "list") (fun xs H Q => ∃ p kvs, xs = [.ref p] ∧ Rd H p (.dK kvs) ∧ ∀ l, H l = none → Q (.ref l) (upd H l (.lst (kvs.map fun kv => kV kv.1)))) := by
 intro pins s σ H xs us Q I r h
 obtain ⟨p, kvs, rfl, hp, q⟩ := h
 obtain ⟨u, rfl, rx⟩ := vals1 r
 cases rx
 obtain ⟨hz, hS, vs, rv, od, es, ep, hod, hx, hdat, hk, hpr, hn⟩ := dk_rd I.hok hp
 refine PySem.W.kdl_call (PySem.W.kdl_dict (knd := mixKind X.prog X.w) (kvs := vs) (ep := ep) hS) (I.ok.hd hc) ⟨od, es, hod, hx, hdat, hk, hpr, hn⟩ (by rw [← rv.length]; exact hz) fun h' tk acc' c' kp e1 it => ?_
 have hl : acc'.toList.length = kvs.length := by rw [Array.length_toList, rv.length]; exact it.1
 refine ⟨.ref s.heap.objs.size, _, I.laid (t' := tk) kp (Nat.le_refl _) (show ObjOk X.prog X.w _ h' _ (.lst (kvs.map fun kv => kV kv.1)) from ⟨by rw [List.length_map]; exact hz, acc'.toList, c', ?_, by rw [Array.toArray_toList]; exact e1⟩), rfl, q _ (I.hok.fresh (Nat.le_refl _))⟩
 refine vals_of (by rw [List.length_map, hl]) fun i x v e2 e3 => ?_
 obtain ⟨k, y, e4, e5⟩ := it.2 i v (by rw [← Array.getElem?_toList]; exact e3)
 rw [List.getElem?_map] at e2
 obtain ⟨kv, hkv, rfl⟩ := Option.map_eq_some_iff.mp e2
 obtain ⟨v2, e6, _⟩ := kv_get rv hkv
 rw [e4] at e6
 cases e6
 exact key_rel e5
end
theorem comp_itemsT {K : PySem.W.Frag} {a : Addr} {o : Obj} {kvs : List (Key × V)} {tc : TT} {te : TE} {σ : St} {H : Hp} {Q : VK} (hz : kvs.length ≤ sizeLine) (W : Nat → List V → Hp → Prop) (h0 : W 0 [] H) (hq : ∀ i ys H, W i ys H → H a = some (.frz o (.dK kvs)))
   (hs : ∀ i x ys H, kvs[i]? = some x → ys.length ≤ i → W i ys H → ∀ T, H T = none → tc (some (kV x.1) :: some x.2 :: σ) (upd H T (.tup [kV x.1, x.2])) fun c H3 => if c = true then te (some (kV x.1) :: some x.2 :: σ) H3 fun z H4 => W (i + 1) (ys ++ [z]) H4 else W (i + 1) ys H3)
   (hd : ∀ ys H, W kvs.length ys H → ∀ p, H p = none → Q (.ref p) (upd H p (.lst ys))) : CompRT K (Itm a o) tc te σ H Q := by
 refine ⟨kvs.length, W, hz, h0, fun i ys H hi hl hw => ?_⟩
 have q := hq i ys H hw
 by_cases hlt : i < kvs.length
 · refine .inr ⟨⟨kvs, q, hlt⟩, hlt, fun v H' y => ?_⟩
   obtain ⟨T, x, rfl, hT, rfl, e⟩ := y
   exact ⟨T, _, _, rfl, SqT.of zB, hs i x ys H (e kvs q) hl hw T hT⟩
 · have e : i = kvs.length := by omega
   subst e
   exact .inl ⟨⟨kvs, q, Nat.le_refl _⟩, hd ys H hw⟩
theorem PS.nox {X : Cx} {st : Stmt} {t : TS} (h : PS X.nox st t) : PS X st t := fun pins s σ H D I hw =>
 wpAny_mono (h pins s σ H D (I.wish _) hw) (fun _ _ q => q.unwish) fun _ _ z => False.elim z
end L2
namespace L2
open PySem PySem.Spec PyProof.Rows PySem.Calls
def NewD (B : Heap) (l : List Env) (e : Addr) (cls : Value) (dct : Option Addr) (h : Heap) : Prop :=
 B.StaysIn h ∧ B.get? e = none ∧ h.FunFrames B l ∧ ∃ oe vs, h.get? e = some oe ∧ (oe.cls = cls ∧ oe.dict = dct) ∧ oe.data = .fields vs ∧ vs[1]? = some .none
section
variable {M : Model} {A : Around} {E : Value → Shared → Prop} {s : Shared}
theorem noteSameD {base : Heap} {env : Env} {l : List Env} {L e : Addr} {cls : Value} {dct : Option Addr} {Q : Unit → Shared → Prop} (hf : env.frame = some L) (x : FlyD base l e cls dct (rawInt L) s.heap) (h : Q () s) : wpAny M A (noteFrame (.ref e) env) Q E s := by
 obtain ⟨hkb, hen, hl, oe, vs, T, oT, ts, he, hc, hd, h1, hnT, hTe, hT, hdT, h3⟩ := x
 unfold noteFrame
 simp only [hf]
 refine wpAny_bind (wpAny_field he hd h1 ?_)
 rw [if_pos (show (Value.ref T != Value.none) = true from by simp)]
 refine wpAny_bind (wpAny_field hT hdT h3 ?_)
 rw [if_pos (show (rawInt L == rawInt L) = true from beq_self_eq_true _)]
 exact wpAny_pure h
theorem flightL {base : Heap} {l : List Env} {e L : Addr} {cls fl : Value} {dct : Option Addr} {Q : Unit → Shared → Prop} (x : FlyD base l e cls dct fl s.heap)
   (h : ∀ h', FlyD base l e cls dct (rawInt L) h' → s.heap.UpToSlots h' → Q () { s with heap := h' }) : wpAny M A (setFlight (.ref e) (some L)) Q E s := by
 obtain ⟨hkb, hen, hl, oe, vs, T, oT, ts, he, hc, hd, h1, hnT, hTe, hT, hdT, h3⟩ := x
 have z3 : 3 < ts.size := (Array.getElem?_eq_some_iff.mp h3).1
 have oth : ∀ b, b ≠ T → (s.heap.update T (Obj.mapFields (·.setIfInBounds 3 ((some L : Option Addr).elim Value.none fun f => rawInt f)))).get? b = s.heap.get? b :=
   fun b z => Heap.get?_update_other _ _ (Ne.symm z)
 have noR : ∀ b o, s.heap.get? b = some o → (∀ vs, o.data ≠ .fields vs) → b ≠ T := fun b o z1 z2 q => by
   rw [q, hT] at z1; injection z1 with z1; subst z1; exact z2 ts hdT
 unfold setFlight
 refine wpAny_bind (wpAny_field he hd h1 ?_)
 rw [if_pos (show (Value.ref T != Value.none) = true from by simp)]
 refine wpAny_setField hT hdT z3 (h _ ⟨fun b o z => (oth b fun q => by rw [q, hnT] at z; cases z).trans (hkb b o z), hen,
   hl.of_keeps fun b o z1 z2 => ⟨o, (oth b (noR b o z1 z2)).trans z1, rfl⟩, ?_⟩ fun b o z1 z2 => ⟨o.slots, (oth b (noR b o z1 z2)).trans z1⟩)
 exact ⟨oe, vs, T, _, _, (oth e (Ne.symm hTe)).trans he, hc, hd, h1, hnT, hTe, Heap.get?_update_self _ hT (Obj.isFreed_of_fields (Obj.data_mapFields hdT _)), Obj.data_mapFields hdT _, by simp [z3]⟩
end
def XL (P : Program) (w : World) (outer : List Env) (H : Hp) (s : Shared) (E : XK) (env : Env) (L : Addr) : Value → Shared → Prop := fun e s' =>
 ∃ (ea : Addr) (cls : Value) (dct : Option Addr) (H' : Hp) (B : Heap), e = .ref ea ∧ (NewD B (env :: outer) ea cls dct s'.heap ∨ FlyD B (env :: outer) ea cls dct .none s'.heap ∨ FlyD B (env :: outer) ea cls dct (rawInt L) s'.heap) ∧ s'.os = s.os ∧ AllBare s'.gens ∧ HOk P w H' B ∧ XUn outer H H' s.heap B s'.heap ∧ E cls dct H'
theorem XUn.stepN {outer : List Env} {env : Env} {H H' : Hp} {h B h1 h2 base : Heap} (x : XUn outer H H' h B h1) (fr : h1.FunFrames base (env :: outer)) (up : h1.UpToSlots h2) : XUn outer H H' h B h2 := x.step fr.2.2 up
section
variable {P : Program} {w : World} {K : PySem.W.Frag} {mg : Str → Option Value} {base : Heap} {N : List Str} {qual : Str} {scope : Scope} {f : Addr} {cdv : Value} {A : Around} {outer : List Env} {s : Shared} {H : Hp} {E : XK}
abbrev LX (P : Program) (w : World) (K : PySem.W.Frag) (mg : Str → Option Value) (base : Heap) (N : List Str) (qual : Str) (scope : Scope) (f : Addr) (cdv : Value) (A : Around) (outer : List Env) (s : Shared) (H : Hp) (E : XK) : Cx :=
 (cxOf (CXW P w) P w K mg base N qual scope f cdv A outer s H E).wish (XL P w outer H s E (envOfC qual scope s.heap.objs.size f cdv) s.heap.objs.size)
theorem passesL (hfr : (cxOf (CXW P w) P w K mg base N qual scope f cdv A outer s H E).A.frames = some (envOfC qual scope s.heap.objs.size f cdv :: outer)) : PassesOwn (model P w) (cxOf (CXW P w) P w K mg base N qual scope f cdv A outer s H E).A (envOfC qual scope s.heap.objs.size f cdv) (XL P w outer H s E (envOfC qual scope s.heap.objs.size f cdv) s.heap.objs.size) := by
 intro e s' h
 obtain ⟨ea, cls, dct, H', B, rfl, fl, os, bare, hok, x, hE⟩ := h
 have fin : ∀ h', FlyD B (envOfC qual scope s.heap.objs.size f cdv :: outer) ea cls dct (rawInt s.heap.objs.size) h' → XUn outer H H' s.heap B h' →
     cameBackBy (model P w) (cxOf (CXW P w) P w K mg base N qual scope f cdv A outer s H E).A (envOfC qual scope s.heap.objs.size f cdv) (XL P w outer H s E (envOfC qual scope s.heap.objs.size f cdv) s.heap.objs.size) (.ref ea) { s' with heap := h' } := fun h' fl x => by
   obtain ⟨_, _, fr, oe, vs, T, oT, ts, he, hc, hd, h1, _⟩ := id fl
   unfold cameBackBy
   refine wpAny_bind (wpAny_field he hd h1 ?_)
   rw [if_neg (show ¬ ((Value.ref T == Value.none) = true) from by simp)]
   refine flightL (s := { s' with heap := h' }) fl fun h2 fl2 up => ?_
   exact ⟨ea, cls, dct, H', B, rfl, .inr (.inr fl2), os, bare, hok, x.stepN fr up, hE⟩
 rcases fl with fl | fl | fl
 · obtain ⟨st, fe, fr, oe, vs, he, ⟨hc, hdc⟩, hd, h1⟩ := fl
   subst hc hdc
   exact noteFirstD hfr fr rfl he st fe hd h1 fun h2 fl2 up => fin h2 fl2 (x.stepN fr up)
 · exact noteOnD hfr rfl fl fun h2 fl2 up => fin h2 fl2 (x.stepN fl.2.2.1 up)
 · exact noteSameD rfl fl (fin s'.heap fl x)
theorem xl_leaves (hfr : (cxOf (CXW P w) P w K mg base N qual scope f cdv A outer s H E).A.frames = some (envOfC qual scope s.heap.objs.size f cdv :: outer)) {e : Value} {s' : Shared} (h : XL P w outer H s E (envOfC qual scope s.heap.objs.size f cdv) s.heap.objs.size e s') : (cxOf (CXW P w) P w K mg base N qual scope f cdv A outer s H E).xe e s' := by
 obtain ⟨ea, cls, dct, H', B, rfl, fl, os, bare, hok, x, hE⟩ := h
 show wpAny (model P w) _ (leaving (envOfC qual scope s.heap.objs.size f cdv) (.ref ea)) _ _ _
 rcases fl with fl | fl | fl
 · obtain ⟨st, fe, fr, oe, vs, he, ⟨hc, hdc⟩, hd, h1⟩ := fl
   subst hc hdc
   exact leaveFirstD hfr fr rfl he st fe hd h1 fun h2 fl2 up => ⟨ea, _, _, H', B, rfl, fl2, os, bare, hok, x.stepN fr up, hE⟩
 · exact leaveOnD hfr rfl fl fun h2 fl2 up => ⟨ea, cls, dct, H', B, rfl, fl2, os, bare, hok, x.stepN fl.2.2.1 up, hE⟩
 · unfold leaving
   refine wpAny_bind (noteSameD rfl fl ?_)
   refine flightD fl fun h2 fl2 up => ⟨ea, cls, dct, H', B, rfl, fl2.less, os, bare, hok, x.stepN fl.2.2.1 up, hE⟩
theorem PS.inL {st : Stmt} {t : TS} (h : PS (LX P w K mg base N qual scope f cdv A outer s H E) st t) : PS (cxOf (CXW P w) P w K mg base N qual scope f cdv A outer s H E) st t := fun pins s1 σ H1 D I hw =>
 wpAny_mono (h pins s1 σ H1 D (I.wish _) hw) (fun _ _ q => q.unwish) fun _ _ z => xl_leaves I.ok.frames z
theorem passL : Passes (CXW P w) (LX P w K mg base N qual scope f cdv A outer s H E) E := by
 intro pins σ H1 s1 e s' I h
 have I : Inv (cxOf (CXW P w) P w K mg base N qual scope f cdv A outer s H E) pins σ H1 s1 := I.unwish
 obtain ⟨ea, cls, dct, H', B, rfl, fl, os, bare, hok, x, hE⟩ := h
 have noL : ∀ b o, s.heap.get? b = some o → b ∉ frs outer → b ∉ frs (cxOf (CXW P w) P w K mg base N qual scope f cdv A outer s H E).stack := fun b o q n z => by
   rcases List.mem_cons.mp (I.stkSub b z) with z | z
   · have : b < s.heap.objs.size := Heap.lt_size q
     have a := I.ok.above
     rw [← z] at a
     exact absurd (Nat.lt_of_lt_of_le this a) (Nat.lt_irrefl _)
   · exact n z
 have x2 := x
 refine ⟨ea, cls, dct, H', B, rfl, .inr (.inl fl), os.trans I.os, bare, hok, ⟨fun b o q n hb => ?_, fun b o q hb => ?_, fun b o q n hb => ?_, fun b o q n => ?_, fun b xs q => x.tups b xs (I.base.tups b xs q), fun b o u q => x.frzs b o u (I.base.frzs b o u q), fun b ps q => ?_⟩, hE⟩
 · exact x.keepB b o (I.base.keep b o q n hb (fun z => nomatch z)) (I.base.free b o q n (fun z => nomatch z)) (noL b o q hb)
 · obtain ⟨o', q'⟩ := I.base.there b o q (fun z => nomatch z)
   exact x.thereB b o' q' (noL b o q hb)
 · obtain ⟨sl, q'⟩ := I.base.slot b o q n hb (fun z => nomatch z)
   obtain ⟨sl', q2⟩ := x2.slot b _ q' (I.base.free b o q n (fun z => nomatch z)) (by
     obtain ⟨env, he, hf⟩ := List.mem_filterMap.mp hb
     exact List.mem_filterMap.mpr ⟨env, List.mem_cons_of_mem _ he, hf⟩)
   exact ⟨sl', q2⟩
 · obtain ⟨o', q'⟩ := I.base.there b o q (fun z => nomatch z)
   exact x.free b o' q' (I.base.free b o q n (fun z => nomatch z))
 · obtain ⟨m1, e1⟩ := I.base.tbls b ps q
   obtain ⟨m2, e2⟩ := x.tbls b _ e1
   exact ⟨m1 ++ m2, by rw [e2, Array.append_assoc]⟩
end
section
variable {P : Program} {w : World} {K : PySem.W.Frag} {mg : Str → Option Value} {base : Heap}
theorem xl_madeI {pins : List (Addr × Obj)} {σ : St} {H1 : Hp} {s1 : Shared} {e C dx : Addr} (I : Inv (cxOf (CXW P w) P w K mg base N qual scope f cdv A outer s H E) pins σ H1 s1)
   (he : H1 e = some (excN e C (some dx))) (new : ∀ b o, s.heap.get? b = some o → b ≠ e) (hE : E (.ref C) (some dx) (hid H1 e)) : XL P w outer H s E (envOfC qual scope s.heap.objs.size f cdv) s.heap.objs.size (.ref e) s1 := by
 obtain ⟨⟨t0, e0⟩, _⟩ := (show ObjOk P w H1 s1.heap e (excN e C (some dx)) from I.hok e _ he)
 have hst := I.stack
 have hin : ∀ env ∈ (cxOf (CXW P w) P w K mg base N qual scope f cdv A outer s H E).stack, ∀ b, env.frame = some b → b ∈ frs (cxOf (CXW P w) P w K mg base N qual scope f cdv A outer s H E).stack := fun env he b hb => List.mem_filterMap.mpr ⟨env, he, hb⟩
 have ntr : e ∉ frs (cxOf (CXW P w) P w K mg base N qual scope f cdv A outer s H E).stack := fun z => by rw [I.stkFree e z] at he; cases he
 generalize hB : PySem.W.hideAll s1.heap (e :: frs (cxOf (CXW P w) P w K mg base N qual scope f cdv A outer s H E).stack) = B
 have stB : B.StaysIn s1.heap := fun b o q => by rw [← hB] at q; exact PySem.W.of_hideAll _ q
 have getB : ∀ b o, s1.heap.get? b = some o → b ≠ e → b ∉ frs (cxOf (CXW P w) P w K mg base N qual scope f cdv A outer s H E).stack → B.get? b = some o := fun b o q n1 n => by
   rw [← hB]; exact PySem.W.hideAll_get _ q fun z => (List.mem_cons.mp z).elim n1 n
 have frB : s1.heap.FunFrames B (cxOf (CXW P w) P w K mg base N qual scope f cdv A outer s H E).stack := by rw [← hB]; exact PySem.W.funFrames_hide hst fun env he b hb => List.mem_cons_of_mem _ (hin env he b hb)
 have noL : ∀ b o, s.heap.get? b = some o → b ∉ frs outer → b ∉ frs (cxOf (CXW P w) P w K mg base N qual scope f cdv A outer s H E).stack := fun b o q n z => by
   rcases List.mem_cons.mp (I.stkSub b z) with z | z
   · have : b < s.heap.objs.size := Heap.lt_size q
     have a := I.ok.above
     rw [← z] at a
     exact absurd (Nat.lt_of_lt_of_le this a) (Nat.lt_irrefl _)
   · exact n z
 have fe : B.get? e = none := by
   cases q : B.get? e with
   | none => rfl
   | some o => rw [← hB, PySem.W.hideAll_none _ (List.mem_cons_self)] at q; cases q
 have nx : ∀ b u, H1 b = some u → b ≠ e → hid H1 e b = some u := fun b u z n => by unfold hid; rw [if_neg n]; exact z
 refine ⟨e, .ref C, some dx, hid H1 e, B, rfl, .inl ⟨stB, fe, frB, _, _, e0, ⟨rfl, rfl⟩, rfl, rfl⟩, I.os, I.bare, fun a o q => ?_, ⟨fun b o q n hb => ?_, fun b o q hb => ?_, fun b o q n hb => ?_, fun b o q n => ?_, fun b xs q => ?_, fun b o u q => ?_, fun b ps q => ?_⟩, hE⟩
 · have na : a ≠ e := fun z => by subst z; unfold hid at q; rw [if_pos rfl] at q; cases q
   have q' : H1 a = some o := by unfold hid at q; rw [if_neg na] at q; exact q
   refine (I.hok a o q').stay (fun b u hb z => getB b u z (fun y => ?_) fun m => ?_) (fun b z => nx b _ z fun y => ?_) (fun b xs z => nx b _ z fun y => ?_)
   · rcases hb with r | r
     · exact na (r.symm.trans y)
     · rw [y, he] at r; cases r
   · have z := I.stkFree b m
     rcases hb with r | r
     · rw [r, q'] at z; cases z
     · rw [r] at z; cases z
   · rw [y, he] at z; cases z
   · rw [y, he] at z; cases z
 · exact getB b o (I.base.keep b o q n hb (fun z => nomatch z)) (new b o q) (noL b o q hb)
 · obtain ⟨o', q'⟩ := I.base.there b o q (fun z => nomatch z)
   exact ⟨o', getB b o' q' (new b o q) (noL b o q hb)⟩
 · obtain ⟨sl, q'⟩ := I.base.slot b o q n hb (fun z => nomatch z)
   exact ⟨sl, q'⟩
 · have z := I.base.free b o q n (fun z => nomatch z)
   unfold hid; split
   · rfl
   · exact z
 · exact nx b _ (I.base.tups b xs q) fun y => by have z := I.base.tups b xs q; rw [y, he] at z; cases z
 · exact nx b _ (I.base.frzs b o u q) fun y => by have z := I.base.frzs b o u q; rw [y, he] at z; cases z
 · obtain ⟨m1, e1⟩ := I.base.tbls b ps q
   exact ⟨m1, nx b _ e1 fun y => by rw [y, he] at e1; cases e1⟩
theorem ps_raiseL {x : Str} {C fI : Addr} {np cpos pos : Pos} {e₀ : Expr} {rest : List Expr} {t : TA} {fd : FuncData} {ps : List Str} {sp : Sp} {k : Nat} (Mx : MkX K C fI) (F : FnOk P w K mg base (CXW P w) k fI fd ps sp) (hr : Room (k + 1) (cxOf (CXW P w) P w K mg base N qual scope f cdv A outer s H E).A)
   (hb : Binds K fd ps []) (hm : mg x = some (.ref C)) (ha : PA (LX P w K mg base N qual scope f cdv A outer s H E) (e₀ :: rest) t) (hg : Gl (cxOf (CXW P w) P w K mg base N qual scope f cdv A outer s H E) x)
   (he : starEach (e₀ :: rest) (envOfC qual scope s.heap.objs.size f cdv) = (false, eval e₀ (envOfC qual scope s.heap.objs.size f cdv)) :: starEach rest (envOfC qual scope s.heap.objs.size f cdv) := by rfl)
   (hpl : (backTo cpos (starEach rest (envOfC qual scope s.heap.objs.size f cdv))).any (·.1) = false := by rfl) (hd : (x == ("__debug__" : Str)) = false := by decide) :
   PS (LX P w K mg base N qual scope f cdv A outer s H E) (.Raise (some (.Call (.Name x np) (e₀ :: rest) [] cpos)) none pos) (tRaiseI E C sp t) := by
 intro pins s1 σ H1 D I h
 have I : Inv (cxOf (CXW P w) P w K mg base N qual scope f cdv A outer s H E) pins σ H1 s1 := I.unwish
 have hand : (cxOf (CXW P w) P w K mg base N qual scope f cdv A outer s H E).A.handled = none := I.ok.hd rfl
 rw [arm_exec_Raise]
 refine wpAny_bind (wpAny_standAt ?_)
 simp only [evalOpt, Option.map]
 refine raiseStmt_X (K := K) (C := C) hand Mx.ex (wpAny_bind (wpAny_mono (wpAny_Call_ofName (xO I hg hm ?_ hd)) (fun v s₃ h₃ => wpAny_bind (wpAny_standAt (wpAny_pure h₃))) fun _ _ x => x))
 refine PySem.W.callWith_K (h₀ := base) I.ok.mod.kin Mx.kp (thn (ha cpos pins s1 σ H1 _ (I.wish _) h) fun us s2 ⟨vs, H2, I2, r, hl, q⟩ => ⟨I2.kIn, ?_⟩) he hpl
 have I2 : Inv (cxOf (CXW P w) P w K mg base N qual scope f cdv A outer s H E) pins σ H2 s2 := I2.unwish
 refine exc_make I2.kIn Mx.ex Mx.init Mx.fn (by rw [List.nil_append, ← r.length]; exact hl) fun h' e t0 hp ee kp sz => ?_
 have fe : H2 e = none := I2.hok.fresh hp
 have I3 : Inv (cxOf (CXW P w) P w K mg base N qual scope f cdv A outer s H E) pins σ (upd H2 e (excN e C none)) { s2 with heap := h', toks := s2.toks } := I2.laid kp hp (excN_ok ee)
 have q' := q e fe
 have r2 : Vals (V.ref e :: vs) (Value.ref e :: us) := .cons rfl r
 have hl2 : (Value.ref e :: us).length = ps.length := by rw [← r2.length]; exact F.len _ _ _ _ q'
 have hb' := hb { s2 with heap := h' } (Value.ref e :: us) I3.kIn (by rw [List.append_nil]; exact hl2)
 rw [List.append_nil] at hb'
 refine wpAny_call (codeAny_mono (F.run _ _ _ _ ⟨Value.ref e :: us, []⟩ (Value.ref e :: us) _ _ E0 (hr.make C us []) (I3.env0.make C us []) hb' r2 q') fun r' s' hq' => ?_)
 cases r' with
 | error ex => exact (passW0' (X := cxOf (CXW P w) P w K mg base N qual scope f cdv A outer s H E) hq').elim
 | ok fl =>
   cases fl with
   | ret u =>
     obtain ⟨v, H4, I4, rv, ev, dx, e4, q4⟩ := I3.after hq'
     subst ev
     cases (show u = Value.none from rv)
     obtain ⟨⟨t1, e1⟩, _⟩ := (show ObjOk P w H4 s'.heap e (excN e C (some dx)) from I4.hok e _ e4)
     refine ⟨rfl, e, t1, some dx, rfl, I4.kIn, e1, xl_madeI I4 e4 (fun b o z => ?_) q4⟩
     obtain ⟨o', z'⟩ := I2.base.there b o z (fun z => nomatch z)
     exact Nat.ne_of_lt (Nat.lt_of_lt_of_le (Heap.lt_size z') hp)
   | next => exact False.elim hq'
   | brk => exact False.elim hq'
   | cont => exact False.elim hq'
theorem ps_forL {tg iter : Expr} {body : List Stmt} {g : TG} {tb : TS} {wi : TI} {pos : Pos} (hi : PI (LX P w K mg base N qual scope f cdv A outer s H E) tg iter wi) (hg : PG (LX P w K mg base N qual scope f cdv A outer s H E) tg g) (hb : PSs (LX P w K mg base N qual scope f cdv A outer s H E) body tb)
   (hs : ∀ x, foldedSetIterable iter (envOfC qual scope s.heap.objs.size f cdv) x = pure x := by intro _; rfl) : PS (LX P w K mg base N qual scope f cdv A outer s H E) (.For tg iter body [] pos) (tForR wi g tb) := fun pins s1 σ H1 D I h =>
 ps_forR (X := LX P w K mg base N qual scope f cdv A outer s H E) (passesL I.unwish.ok.frames) rfl hi hg hb hs pins s1 σ H1 D I h
end
end L2
namespace L2
open PySem PySem.Spec PyProof.Rows PySem.Calls
theorem pt_ifExp {X : Cx} {c a b : Expr} {tc ta tb : TT} {pos : Pos} (hc : PT X c tc) (ha : PT X a ta) (hb : PT X b tb) : PT X (.IfExp c a b pos) (fun σ H Q => tc σ H fun k H1 => if k = true then ta σ H1 Q else tb σ H1 Q) := by
 intro pins s σ H Q I h
 rw [PySem.isTrue]
 refine wpAny_bind (thn (hc pins s σ H _ I h) fun v s1 ⟨H1, I1, q1⟩ => ?_)
 cases v with
 | true => exact ha pins s1 σ H1 Q I1 (by simpa using q1)
 | false => exact hb pins s1 σ H1 Q I1 (by simpa using q1)
theorem call_str_none {X : Cx} : CallR X (.type "str") (fun xs H Q => xs = [.non] ∧ Q (.str (Str.ofString "None")) H) := by
 intro pins s σ H xs us Q I r h
 obtain ⟨rfl, q⟩ := h
 obtain ⟨u, rfl, ru⟩ := vals1 r
 cases ru
 exact PySem.P.str_of_none ⟨.str _, H, I.tok _, ⟨_, rfl⟩, q⟩
end L2
namespace K40
open PySem L2
def top (i : Nat) : Stmt := PySem.Challenge.pw_askpaper_k40_rounds_one_by_one.main.body.getD i (.Pass ⟨0, 0, 0, 0⟩)
abbrev s_c_Twice___init : Stmt := inClass (top 5) 0
abbrev s_c_Unknown___init : Stmt := inClass (top 6) 0
abbrev s_c_WrongKind___init : Stmt := inClass (top 7) 0
abbrev s_c_NoWay___init : Stmt := inClass (top 8) 0
abbrev s_c_OutOfReach___init : Stmt := inClass (top 9) 0
abbrev s_c_Ring___init : Stmt := inClass (top 10) 0
abbrev s_c_Kind___init : Stmt := inClass (top 25) 0
abbrev s_c_YesNo___init : Stmt := inClass (top 26) 0
abbrev s_c_YesNo_fits : Stmt := inClass (top 26) 1
abbrev s_c_YesNo_answer_of : Stmt := inClass (top 26) 2
abbrev s_c_YesNo_rank : Stmt := inClass (top 26) 4
abbrev s_c_Row___init : Stmt := inClass (top 31) 0
abbrev s_c_Ask___init : Stmt := inClass (top 32) 0
abbrev s_c_Sheet___init : Stmt := inClass (top 33) 0
abbrev s_c_Paper___init : Stmt := inClass (top 34) 0
abbrev s_kinds_of : Stmt := top 36
abbrev s_names_given : Stmt := top 39
abbrev s_look_for_twice : Stmt := top 40
abbrev s_saying_of : Stmt := top 41
abbrev s_atoms_of : Stmt := top 42
abbrev s_look_at_atoms : Stmt := top 44
abbrev s_look_at_parts : Stmt := top 45
abbrev s_look_at_names : Stmt := top 46
abbrev s_sums_in : Stmt := top 47
abbrev s_look_for_ring : Stmt := top 48
abbrev s_c_Reach___init : Stmt := inClass (top 49) 0
abbrev s_c_Reach_comes_again : Stmt := inClass (top 49) 1
abbrev s_c_Reach_is_within : Stmt := inClass (top 49) 2
abbrev s_c_Reach_reaches_question : Stmt := inClass (top 49) 3
abbrev s_c_Reach_look_at_saying : Stmt := inClass (top 49) 5
abbrev s_c_Reach_look_at_sheet : Stmt := inClass (top 49) 6
abbrev s_look_for_reach : Stmt := top 50
abbrev s_look_at : Stmt := top 51
abbrev s_c_Is___init : Stmt := inClass (top 54) 0
abbrev s_c_Is_atoms : Stmt := inClass (top 54) 2
abbrev s_c_Is_settled : Stmt := inClass (top 54) 3
abbrev s_c_Compare___init : Stmt := inClass (top 55) 0
abbrev s_c_Compare_atoms : Stmt := inClass (top 55) 2
abbrev s_c_Compare_settled : Stmt := inClass (top 55) 3
abbrev s_law_cell : Stmt := top 57
abbrev s_law_name : Stmt := top 58
abbrev s_law_alone : Stmt := top 59
abbrev s_law_fault : Stmt := top 60
abbrev s_law_row : Stmt := top 61
abbrev s_law_way : Stmt := top 62
abbrev s_law_sums : Stmt := top 63
abbrev s_law_paper : Stmt := top 64
abbrev s_law : Stmt := top 65
structure Adr where
 f_c_Twice___init : Addr
 d_c_Twice___init : FuncData
 f_c_Unknown___init : Addr
 d_c_Unknown___init : FuncData
 f_c_WrongKind___init : Addr
 d_c_WrongKind___init : FuncData
 f_c_NoWay___init : Addr
 d_c_NoWay___init : FuncData
 f_c_OutOfReach___init : Addr
 d_c_OutOfReach___init : FuncData
 f_c_Ring___init : Addr
 d_c_Ring___init : FuncData
 f_c_Kind___init : Addr
 d_c_Kind___init : FuncData
 f_c_YesNo___init : Addr
 d_c_YesNo___init : FuncData
 f_c_YesNo_fits : Addr
 d_c_YesNo_fits : FuncData
 f_c_YesNo_answer_of : Addr
 d_c_YesNo_answer_of : FuncData
 f_c_YesNo_rank : Addr
 d_c_YesNo_rank : FuncData
 f_c_Row___init : Addr
 d_c_Row___init : FuncData
 f_c_Ask___init : Addr
 d_c_Ask___init : FuncData
 ds_c_Ask___init : List Value
 f_c_Sheet___init : Addr
 d_c_Sheet___init : FuncData
 f_c_Paper___init : Addr
 d_c_Paper___init : FuncData
 f_kinds_of : Addr
 d_kinds_of : FuncData
 f_names_given : Addr
 d_names_given : FuncData
 f_look_for_twice : Addr
 d_look_for_twice : FuncData
 f_saying_of : Addr
 d_saying_of : FuncData
 f_atoms_of : Addr
 d_atoms_of : FuncData
 f_look_at_atoms : Addr
 d_look_at_atoms : FuncData
 f_look_at_parts : Addr
 d_look_at_parts : FuncData
 f_look_at_names : Addr
 d_look_at_names : FuncData
 f_sums_in : Addr
 d_sums_in : FuncData
 f_look_for_ring : Addr
 d_look_for_ring : FuncData
 f_c_Reach___init : Addr
 d_c_Reach___init : FuncData
 f_c_Reach_comes_again : Addr
 d_c_Reach_comes_again : FuncData
 f_c_Reach_is_within : Addr
 d_c_Reach_is_within : FuncData
 f_c_Reach_reaches_question : Addr
 d_c_Reach_reaches_question : FuncData
 f_c_Reach_look_at_saying : Addr
 d_c_Reach_look_at_saying : FuncData
 f_c_Reach_look_at_sheet : Addr
 d_c_Reach_look_at_sheet : FuncData
 f_look_for_reach : Addr
 d_look_for_reach : FuncData
 f_look_at : Addr
 d_look_at : FuncData
 f_c_Is___init : Addr
 d_c_Is___init : FuncData
 ds_c_Is___init : List Value
 f_c_Is_atoms : Addr
 d_c_Is_atoms : FuncData
 f_c_Is_settled : Addr
 d_c_Is_settled : FuncData
 f_c_Compare___init : Addr
 d_c_Compare___init : FuncData
 f_c_Compare_atoms : Addr
 d_c_Compare_atoms : FuncData
 f_c_Compare_settled : Addr
 d_c_Compare_settled : FuncData
 f_law_cell : Addr
 d_law_cell : FuncData
 f_law_name : Addr
 d_law_name : FuncData
 f_law_alone : Addr
 d_law_alone : FuncData
 f_law_fault : Addr
 d_law_fault : FuncData
 f_law_row : Addr
 d_law_row : FuncData
 f_law_way : Addr
 d_law_way : FuncData
 f_law_sums : Addr
 d_law_sums : FuncData
 f_law_paper : Addr
 d_law_paper : FuncData
 f_law : Addr
 d_law : FuncData
 a_WRITTEN_TRUTHS : Addr
 c_Ask : Addr
 c_AskError : Addr
 c_Compare : Addr
 c_Is : Addr
 c_Kind : Addr
 c_Names : Addr
 c_NoWay : Addr
 c_OutOfReach : Addr
 c_Paper : Addr
 c_Pick : Addr
 c_Reach : Addr
 c_Ring : Addr
 c_Row : Addr
 c_Saying : Addr
 c_Sheet : Addr
 c_Twice : Addr
 c_Unknown : Addr
 c_Whole : Addr
 c_WrongKind : Addr
 c_YesNo : Addr
structure Txt (K : W.Frag) (mg : Str → Option Value) (A : Adr) : Prop where
 F_c_Twice___init : Fun K "__init__" "Twice.__init__" s_c_Twice___init A.f_c_Twice___init A.d_c_Twice___init
 b_c_Twice___init : Binds K A.d_c_Twice___init ["self", "name"] []
 F_c_Unknown___init : Fun K "__init__" "Unknown.__init__" s_c_Unknown___init A.f_c_Unknown___init A.d_c_Unknown___init
 b_c_Unknown___init : Binds K A.d_c_Unknown___init ["self", "name"] []
 F_c_WrongKind___init : Fun K "__init__" "WrongKind.__init__" s_c_WrongKind___init A.f_c_WrongKind___init A.d_c_WrongKind___init
 b_c_WrongKind___init : Binds K A.d_c_WrongKind___init ["self", "name"] []
 F_c_NoWay___init : Fun K "__init__" "NoWay.__init__" s_c_NoWay___init A.f_c_NoWay___init A.d_c_NoWay___init
 b_c_NoWay___init : Binds K A.d_c_NoWay___init ["self", "name"] []
 F_c_OutOfReach___init : Fun K "__init__" "OutOfReach.__init__" s_c_OutOfReach___init A.f_c_OutOfReach___init A.d_c_OutOfReach___init
 b_c_OutOfReach___init : Binds K A.d_c_OutOfReach___init ["self", "name"] []
 F_c_Ring___init : Fun K "__init__" "Ring.__init__" s_c_Ring___init A.f_c_Ring___init A.d_c_Ring___init
 b_c_Ring___init : Binds K A.d_c_Ring___init ["self", "ring"] []
 F_c_Kind___init : Fun K "__init__" "Kind.__init__" s_c_Kind___init A.f_c_Kind___init A.d_c_Kind___init
 b_c_Kind___init : Binds K A.d_c_Kind___init ["self", "low", "high"] []
 F_c_YesNo___init : Fun K "__init__" "YesNo.__init__" s_c_YesNo___init A.f_c_YesNo___init A.d_c_YesNo___init
 b_c_YesNo___init : Binds K A.d_c_YesNo___init ["self"] []
 F_c_YesNo_fits : Fun K "fits" "YesNo.fits" s_c_YesNo_fits A.f_c_YesNo_fits A.d_c_YesNo_fits
 b_c_YesNo_fits : Binds K A.d_c_YesNo_fits ["self", "thing"] []
 F_c_YesNo_answer_of : Fun K "answer_of" "YesNo.answer_of" s_c_YesNo_answer_of A.f_c_YesNo_answer_of A.d_c_YesNo_answer_of
 b_c_YesNo_answer_of : Binds K A.d_c_YesNo_answer_of ["self", "text"] []
 F_c_YesNo_rank : Fun K "rank" "YesNo.rank" s_c_YesNo_rank A.f_c_YesNo_rank A.d_c_YesNo_rank
 b_c_YesNo_rank : Binds K A.d_c_YesNo_rank ["self", "answer"] []
 F_c_Row___init : Fun K "__init__" "Row.__init__" s_c_Row___init A.f_c_Row___init A.d_c_Row___init
 b_c_Row___init : Binds K A.d_c_Row___init ["self", "name"] []
 F_c_Ask___init : FunD K "__init__" "Ask.__init__" s_c_Ask___init A.ds_c_Ask___init A.f_c_Ask___init A.d_c_Ask___init
 b_c_Ask___init : Binds K A.d_c_Ask___init ["self", "name", "kind", "when"] []
 bd_c_Ask___init : Binds K A.d_c_Ask___init ["self", "name", "kind", "when"] A.ds_c_Ask___init
 dv_c_Ask___init : Vals [.non] A.ds_c_Ask___init
 F_c_Sheet___init : Fun K "__init__" "Sheet.__init__" s_c_Sheet___init A.f_c_Sheet___init A.d_c_Sheet___init
 b_c_Sheet___init : Binds K A.d_c_Sheet___init ["self", "name", "each", "rows", "ways"] []
 F_c_Paper___init : Fun K "__init__" "Paper.__init__" s_c_Paper___init A.f_c_Paper___init A.d_c_Paper___init
 b_c_Paper___init : Binds K A.d_c_Paper___init ["self", "name", "sheets", "totals"] []
 F_kinds_of : Fun K "kinds_of" "kinds_of" s_kinds_of A.f_kinds_of A.d_kinds_of
 b_kinds_of : Binds K A.d_kinds_of ["paper"] []
 k_kinds_of : W.keepIn K (.ref A.f_kinds_of) = true
 m_kinds_of : mg "kinds_of" = some (.ref A.f_kinds_of)
 F_names_given : Fun K "names_given" "names_given" s_names_given A.f_names_given A.d_names_given
 b_names_given : Binds K A.d_names_given ["paper"] []
 k_names_given : W.keepIn K (.ref A.f_names_given) = true
 m_names_given : mg "names_given" = some (.ref A.f_names_given)
 F_look_for_twice : Fun K "look_for_twice" "look_for_twice" s_look_for_twice A.f_look_for_twice A.d_look_for_twice
 b_look_for_twice : Binds K A.d_look_for_twice ["paper"] []
 k_look_for_twice : W.keepIn K (.ref A.f_look_for_twice) = true
 m_look_for_twice : mg "look_for_twice" = some (.ref A.f_look_for_twice)
 F_saying_of : Fun K "saying_of" "saying_of" s_saying_of A.f_saying_of A.d_saying_of
 b_saying_of : Binds K A.d_saying_of ["row"] []
 k_saying_of : W.keepIn K (.ref A.f_saying_of) = true
 m_saying_of : mg "saying_of" = some (.ref A.f_saying_of)
 F_atoms_of : Fun K "atoms_of" "atoms_of" s_atoms_of A.f_atoms_of A.d_atoms_of
 b_atoms_of : Binds K A.d_atoms_of ["saying"] []
 k_atoms_of : W.keepIn K (.ref A.f_atoms_of) = true
 m_atoms_of : mg "atoms_of" = some (.ref A.f_atoms_of)
 F_look_at_atoms : Fun K "look_at_atoms" "look_at_atoms" s_look_at_atoms A.f_look_at_atoms A.d_look_at_atoms
 b_look_at_atoms : Binds K A.d_look_at_atoms ["saying", "kinds", "totals"] []
 k_look_at_atoms : W.keepIn K (.ref A.f_look_at_atoms) = true
 m_look_at_atoms : mg "look_at_atoms" = some (.ref A.f_look_at_atoms)
 F_look_at_parts : Fun K "look_at_parts" "look_at_parts" s_look_at_parts A.f_look_at_parts A.d_look_at_parts
 b_look_at_parts : Binds K A.d_look_at_parts ["parts", "kinds", "totals"] []
 k_look_at_parts : W.keepIn K (.ref A.f_look_at_parts) = true
 m_look_at_parts : mg "look_at_parts" = some (.ref A.f_look_at_parts)
 F_look_at_names : Fun K "look_at_names" "look_at_names" s_look_at_names A.f_look_at_names A.d_look_at_names
 b_look_at_names : Binds K A.d_look_at_names ["paper"] []
 k_look_at_names : W.keepIn K (.ref A.f_look_at_names) = true
 m_look_at_names : mg "look_at_names" = some (.ref A.f_look_at_names)
 F_sums_in : Fun K "sums_in" "sums_in" s_sums_in A.f_sums_in A.d_sums_in
 b_sums_in : Binds K A.d_sums_in ["parts", "totals"] []
 k_sums_in : W.keepIn K (.ref A.f_sums_in) = true
 m_sums_in : mg "sums_in" = some (.ref A.f_sums_in)
 F_look_for_ring : Fun K "look_for_ring" "look_for_ring" s_look_for_ring A.f_look_for_ring A.d_look_for_ring
 b_look_for_ring : Binds K A.d_look_for_ring ["paper"] []
 k_look_for_ring : W.keepIn K (.ref A.f_look_for_ring) = true
 m_look_for_ring : mg "look_for_ring" = some (.ref A.f_look_for_ring)
 F_c_Reach___init : Fun K "__init__" "Reach.__init__" s_c_Reach___init A.f_c_Reach___init A.d_c_Reach___init
 b_c_Reach___init : Binds K A.d_c_Reach___init ["self", "paper"] []
 F_c_Reach_comes_again : Fun K "comes_again" "Reach.comes_again" s_c_Reach_comes_again A.f_c_Reach_comes_again A.d_c_Reach_comes_again
 b_c_Reach_comes_again : Binds K A.d_c_Reach_comes_again ["self", "question"] []
 F_c_Reach_is_within : Fun K "is_within" "Reach.is_within" s_c_Reach_is_within A.f_c_Reach_is_within A.d_c_Reach_is_within
 b_c_Reach_is_within : Binds K A.d_c_Reach_is_within ["self", "question", "here"] []
 F_c_Reach_reaches_question : Fun K "reaches_question" "Reach.reaches_question" s_c_Reach_reaches_question A.f_c_Reach_reaches_question A.d_c_Reach_reaches_question
 b_c_Reach_reaches_question : Binds K A.d_c_Reach_reaches_question ["self", "question", "here"] []
 F_c_Reach_look_at_saying : Fun K "look_at_saying" "Reach.look_at_saying" s_c_Reach_look_at_saying A.f_c_Reach_look_at_saying A.d_c_Reach_look_at_saying
 b_c_Reach_look_at_saying : Binds K A.d_c_Reach_look_at_saying ["self", "saying", "here"] []
 F_c_Reach_look_at_sheet : Fun K "look_at_sheet" "Reach.look_at_sheet" s_c_Reach_look_at_sheet A.f_c_Reach_look_at_sheet A.d_c_Reach_look_at_sheet
 b_c_Reach_look_at_sheet : Binds K A.d_c_Reach_look_at_sheet ["self", "place"] []
 F_look_for_reach : Fun K "look_for_reach" "look_for_reach" s_look_for_reach A.f_look_for_reach A.d_look_for_reach
 b_look_for_reach : Binds K A.d_look_for_reach ["paper"] []
 k_look_for_reach : W.keepIn K (.ref A.f_look_for_reach) = true
 m_look_for_reach : mg "look_for_reach" = some (.ref A.f_look_for_reach)
 F_look_at : Fun K "look_at" "look_at" s_look_at A.f_look_at A.d_look_at
 b_look_at : Binds K A.d_look_at ["paper"] []
 k_look_at : W.keepIn K (.ref A.f_look_at) = true
 m_look_at : mg "look_at" = some (.ref A.f_look_at)
 F_c_Is___init : FunD K "__init__" "Is.__init__" s_c_Is___init A.ds_c_Is___init A.f_c_Is___init A.d_c_Is___init
 b_c_Is___init : Binds K A.d_c_Is___init ["self", "name", "word", "place"] []
 bd_c_Is___init : Binds K A.d_c_Is___init ["self", "name", "word", "place"] A.ds_c_Is___init
 dv_c_Is___init : Vals [.non] A.ds_c_Is___init
 F_c_Is_atoms : Fun K "atoms" "Is.atoms" s_c_Is_atoms A.f_c_Is_atoms A.d_c_Is_atoms
 b_c_Is_atoms : Binds K A.d_c_Is_atoms ["self"] []
 F_c_Is_settled : Fun K "settled" "Is.settled" s_c_Is_settled A.f_c_Is_settled A.d_c_Is_settled
 b_c_Is_settled : Binds K A.d_c_Is_settled ["self", "kinds"] []
 F_c_Compare___init : Fun K "__init__" "Compare.__init__" s_c_Compare___init A.f_c_Compare___init A.d_c_Compare___init
 b_c_Compare___init : Binds K A.d_c_Compare___init ["self", "name", "how", "number"] []
 F_c_Compare_atoms : Fun K "atoms" "Compare.atoms" s_c_Compare_atoms A.f_c_Compare_atoms A.d_c_Compare_atoms
 b_c_Compare_atoms : Binds K A.d_c_Compare_atoms ["self"] []
 F_c_Compare_settled : Fun K "settled" "Compare.settled" s_c_Compare_settled A.f_c_Compare_settled A.d_c_Compare_settled
 b_c_Compare_settled : Binds K A.d_c_Compare_settled ["self", "kinds"] []
 F_law_cell : Fun K "_law_cell" "_law_cell" s_law_cell A.f_law_cell A.d_law_cell
 b_law_cell : Binds K A.d_law_cell ["_law_script", "_law_k"] []
 k_law_cell : W.keepIn K (.ref A.f_law_cell) = true
 m_law_cell : mg "_law_cell" = some (.ref A.f_law_cell)
 F_law_name : Fun K "_law_name" "_law_name" s_law_name A.f_law_name A.d_law_name
 b_law_name : Binds K A.d_law_name ["_law_script", "_law_k"] []
 k_law_name : W.keepIn K (.ref A.f_law_name) = true
 m_law_name : mg "_law_name" = some (.ref A.f_law_name)
 F_law_alone : Fun K "_law_alone" "_law_alone" s_law_alone A.f_law_alone A.d_law_alone
 b_law_alone : Binds K A.d_law_alone ["_law_e"] []
 k_law_alone : W.keepIn K (.ref A.f_law_alone) = true
 m_law_alone : mg "_law_alone" = some (.ref A.f_law_alone)
 F_law_fault : Fun K "_law_fault" "_law_fault" s_law_fault A.f_law_fault A.d_law_fault
 b_law_fault : Binds K A.d_law_fault ["_law_paper_here"] []
 k_law_fault : W.keepIn K (.ref A.f_law_fault) = true
 m_law_fault : mg "_law_fault" = some (.ref A.f_law_fault)
 F_law_row : Fun K "_law_row" "_law_row" s_law_row A.f_law_row A.d_law_row
 b_law_row : Binds K A.d_law_row ["_law_script", "_law_s", "_law_cell_here"] []
 k_law_row : W.keepIn K (.ref A.f_law_row) = true
 m_law_row : mg "_law_row" = some (.ref A.f_law_row)
 F_law_way : Fun K "_law_way" "_law_way" s_law_way A.f_law_way A.d_law_way
 b_law_way : Binds K A.d_law_way ["_law_script", "_law_s", "_law_cell_here"] []
 k_law_way : W.keepIn K (.ref A.f_law_way) = true
 m_law_way : mg "_law_way" = some (.ref A.f_law_way)
 F_law_sums : Fun K "_law_sums" "_law_sums" s_law_sums A.f_law_sums A.d_law_sums
 b_law_sums : Binds K A.d_law_sums ["_law_script", "_law_cell_here"] []
 k_law_sums : W.keepIn K (.ref A.f_law_sums) = true
 m_law_sums : mg "_law_sums" = some (.ref A.f_law_sums)
 F_law_paper : Fun K "_law_paper" "_law_paper" s_law_paper A.f_law_paper A.d_law_paper
 b_law_paper : Binds K A.d_law_paper ["_law_script", "_law_cells"] []
 k_law_paper : W.keepIn K (.ref A.f_law_paper) = true
 m_law_paper : mg "_law_paper" = some (.ref A.f_law_paper)
 F_law : Fun K "law" "law" s_law A.f_law A.d_law
 m_law : mg "law" = some (.ref A.f_law)
 m_WRITTEN_TRUTHS : mg "WRITTEN_TRUTHS" = some (.ref A.a_WRITTEN_TRUTHS)
 t_WRITTEN_TRUTHS : TabK K A.a_WRITTEN_TRUTHS [("yes", true), ("no", false)]
 n_ValueError : mg "ValueError" = none
 n_bool : mg "bool" = none
 n_dict : mg "dict" = none
 n_enumerate : mg "enumerate" = none
 n_int : mg "int" = none
 n_isinstance : mg "isinstance" = none
 n_len : mg "len" = none
 n_list : mg "list" = none
 n_range : mg "range" = none
 n_str : mg "str" = none
 i_bool_bool : W.kitOne K (.type "bool") (.type "bool") = some true
 m_Ask : mg "Ask" = some (.ref A.c_Ask)
 v_Ask : GlobV mg "Ask" (.ref A.c_Ask)
 m_AskError : mg "AskError" = some (.ref A.c_AskError)
 v_AskError : GlobV mg "AskError" (.ref A.c_AskError)
 m_Compare : mg "Compare" = some (.ref A.c_Compare)
 m_Is : mg "Is" = some (.ref A.c_Is)
 m_Kind : mg "Kind" = some (.ref A.c_Kind)
 v_Names : GlobV mg "Names" (.ref A.c_Names)
 m_NoWay : mg "NoWay" = some (.ref A.c_NoWay)
 v_NoWay : GlobV mg "NoWay" (.ref A.c_NoWay)
 m_OutOfReach : mg "OutOfReach" = some (.ref A.c_OutOfReach)
 v_OutOfReach : GlobV mg "OutOfReach" (.ref A.c_OutOfReach)
 m_Paper : mg "Paper" = some (.ref A.c_Paper)
 v_Pick : GlobV mg "Pick" (.ref A.c_Pick)
 m_Reach : mg "Reach" = some (.ref A.c_Reach)
 m_Ring : mg "Ring" = some (.ref A.c_Ring)
 v_Ring : GlobV mg "Ring" (.ref A.c_Ring)
 m_Row : mg "Row" = some (.ref A.c_Row)
 m_Sheet : mg "Sheet" = some (.ref A.c_Sheet)
 m_Twice : mg "Twice" = some (.ref A.c_Twice)
 v_Twice : GlobV mg "Twice" (.ref A.c_Twice)
 m_Unknown : mg "Unknown" = some (.ref A.c_Unknown)
 v_Unknown : GlobV mg "Unknown" (.ref A.c_Unknown)
 v_Whole : GlobV mg "Whole" (.ref A.c_Whole)
 m_WrongKind : mg "WrongKind" = some (.ref A.c_WrongKind)
 v_WrongKind : GlobV mg "WrongKind" (.ref A.c_WrongKind)
 m_YesNo : mg "YesNo" = some (.ref A.c_YesNo)
 v_YesNo : GlobV mg "YesNo" (.ref A.c_YesNo)
 mx_NoWay : MkX K A.c_NoWay A.f_c_NoWay___init
 ec_NoWay : ExcCls K A.c_NoWay
 es_NoWay_name : ExcSet K A.c_NoWay "name"
 eg_NoWay_name : ExcGet K A.c_NoWay "name"
 mx_OutOfReach : MkX K A.c_OutOfReach A.f_c_OutOfReach___init
 ec_OutOfReach : ExcCls K A.c_OutOfReach
 es_OutOfReach_name : ExcSet K A.c_OutOfReach "name"
 eg_OutOfReach_name : ExcGet K A.c_OutOfReach "name"
 mx_Ring : MkX K A.c_Ring A.f_c_Ring___init
 ec_Ring : ExcCls K A.c_Ring
 es_Ring_ring : ExcSet K A.c_Ring "ring"
 mx_Twice : MkX K A.c_Twice A.f_c_Twice___init
 ec_Twice : ExcCls K A.c_Twice
 es_Twice_name : ExcSet K A.c_Twice "name"
 eg_Twice_name : ExcGet K A.c_Twice "name"
 mx_Unknown : MkX K A.c_Unknown A.f_c_Unknown___init
 ec_Unknown : ExcCls K A.c_Unknown
 es_Unknown_name : ExcSet K A.c_Unknown "name"
 eg_Unknown_name : ExcGet K A.c_Unknown "name"
 mx_WrongKind : MkX K A.c_WrongKind A.f_c_WrongKind___init
 ec_WrongKind : ExcCls K A.c_WrongKind
 es_WrongKind_name : ExcSet K A.c_WrongKind "name"
 eg_WrongKind_name : ExcGet K A.c_WrongKind "name"
 bi_AskError : BInit K A.c_AskError
 em_Twice_AskError : W.exmOne K (.ref A.c_Twice) (.ref A.c_AskError) = some true
 em_Unknown_AskError : W.exmOne K (.ref A.c_Unknown) (.ref A.c_AskError) = some true
 em_WrongKind_AskError : W.exmOne K (.ref A.c_WrongKind) (.ref A.c_AskError) = some true
 em_NoWay_AskError : W.exmOne K (.ref A.c_NoWay) (.ref A.c_AskError) = some true
 em_Ring_AskError : W.exmOne K (.ref A.c_Ring) (.ref A.c_AskError) = some true
 em_OutOfReach_AskError : W.exmOne K (.ref A.c_OutOfReach) (.ref A.c_AskError) = some true
 kr_Twice_Twice : W.kitOne K (.ref A.c_Twice) (.ref A.c_Twice) = some true
 kr_Twice_Unknown : W.kitOne K (.ref A.c_Twice) (.ref A.c_Unknown) = some false
 kr_Twice_WrongKind : W.kitOne K (.ref A.c_Twice) (.ref A.c_WrongKind) = some false
 kr_Twice_NoWay : W.kitOne K (.ref A.c_Twice) (.ref A.c_NoWay) = some false
 kr_Twice_Ring : W.kitOne K (.ref A.c_Twice) (.ref A.c_Ring) = some false
 kr_Twice_OutOfReach : W.kitOne K (.ref A.c_Twice) (.ref A.c_OutOfReach) = some false
 kr_Twice_AskError : W.kitOne K (.ref A.c_Twice) (.ref A.c_AskError) = some true
 kr_Unknown_Twice : W.kitOne K (.ref A.c_Unknown) (.ref A.c_Twice) = some false
 kr_Unknown_Unknown : W.kitOne K (.ref A.c_Unknown) (.ref A.c_Unknown) = some true
 kr_Unknown_WrongKind : W.kitOne K (.ref A.c_Unknown) (.ref A.c_WrongKind) = some false
 kr_Unknown_NoWay : W.kitOne K (.ref A.c_Unknown) (.ref A.c_NoWay) = some false
 kr_Unknown_Ring : W.kitOne K (.ref A.c_Unknown) (.ref A.c_Ring) = some false
 kr_Unknown_OutOfReach : W.kitOne K (.ref A.c_Unknown) (.ref A.c_OutOfReach) = some false
 kr_Unknown_AskError : W.kitOne K (.ref A.c_Unknown) (.ref A.c_AskError) = some true
 kr_WrongKind_Twice : W.kitOne K (.ref A.c_WrongKind) (.ref A.c_Twice) = some false
 kr_WrongKind_Unknown : W.kitOne K (.ref A.c_WrongKind) (.ref A.c_Unknown) = some false
 kr_WrongKind_WrongKind : W.kitOne K (.ref A.c_WrongKind) (.ref A.c_WrongKind) = some true
 kr_WrongKind_NoWay : W.kitOne K (.ref A.c_WrongKind) (.ref A.c_NoWay) = some false
 kr_WrongKind_Ring : W.kitOne K (.ref A.c_WrongKind) (.ref A.c_Ring) = some false
 kr_WrongKind_OutOfReach : W.kitOne K (.ref A.c_WrongKind) (.ref A.c_OutOfReach) = some false
 kr_WrongKind_AskError : W.kitOne K (.ref A.c_WrongKind) (.ref A.c_AskError) = some true
 kr_NoWay_Twice : W.kitOne K (.ref A.c_NoWay) (.ref A.c_Twice) = some false
 kr_NoWay_Unknown : W.kitOne K (.ref A.c_NoWay) (.ref A.c_Unknown) = some false
 kr_NoWay_WrongKind : W.kitOne K (.ref A.c_NoWay) (.ref A.c_WrongKind) = some false
 kr_NoWay_NoWay : W.kitOne K (.ref A.c_NoWay) (.ref A.c_NoWay) = some true
 kr_NoWay_Ring : W.kitOne K (.ref A.c_NoWay) (.ref A.c_Ring) = some false
 kr_NoWay_OutOfReach : W.kitOne K (.ref A.c_NoWay) (.ref A.c_OutOfReach) = some false
 kr_NoWay_AskError : W.kitOne K (.ref A.c_NoWay) (.ref A.c_AskError) = some true
 kr_Ring_Twice : W.kitOne K (.ref A.c_Ring) (.ref A.c_Twice) = some false
 kr_Ring_Unknown : W.kitOne K (.ref A.c_Ring) (.ref A.c_Unknown) = some false
 kr_Ring_WrongKind : W.kitOne K (.ref A.c_Ring) (.ref A.c_WrongKind) = some false
 kr_Ring_NoWay : W.kitOne K (.ref A.c_Ring) (.ref A.c_NoWay) = some false
 kr_Ring_Ring : W.kitOne K (.ref A.c_Ring) (.ref A.c_Ring) = some true
 kr_Ring_OutOfReach : W.kitOne K (.ref A.c_Ring) (.ref A.c_OutOfReach) = some false
 kr_Ring_AskError : W.kitOne K (.ref A.c_Ring) (.ref A.c_AskError) = some true
 kr_OutOfReach_Twice : W.kitOne K (.ref A.c_OutOfReach) (.ref A.c_Twice) = some false
 kr_OutOfReach_Unknown : W.kitOne K (.ref A.c_OutOfReach) (.ref A.c_Unknown) = some false
 kr_OutOfReach_WrongKind : W.kitOne K (.ref A.c_OutOfReach) (.ref A.c_WrongKind) = some false
 kr_OutOfReach_NoWay : W.kitOne K (.ref A.c_OutOfReach) (.ref A.c_NoWay) = some false
 kr_OutOfReach_Ring : W.kitOne K (.ref A.c_OutOfReach) (.ref A.c_Ring) = some false
 kr_OutOfReach_OutOfReach : W.kitOne K (.ref A.c_OutOfReach) (.ref A.c_OutOfReach) = some true
 kr_OutOfReach_AskError : W.kitOne K (.ref A.c_OutOfReach) (.ref A.c_AskError) = some true
 kr_Ask_Ask : W.kitOne K (.ref A.c_Ask) (.ref A.c_Ask) = some true
 kr_YesNo_Pick : W.kitOne K (.ref A.c_YesNo) (.ref A.c_Pick) = some false
 kr_YesNo_YesNo : W.kitOne K (.ref A.c_YesNo) (.ref A.c_YesNo) = some true
 kr_YesNo_Whole : W.kitOne K (.ref A.c_YesNo) (.ref A.c_Whole) = some false
 kr_YesNo_Names : W.kitOne K (.ref A.c_YesNo) (.ref A.c_Names) = some false
 krt_Twice_ValueError : W.kitOne K (.ref A.c_Twice) (.type "ValueError") = some true
 krt_Unknown_ValueError : W.kitOne K (.ref A.c_Unknown) (.type "ValueError") = some true
 krt_WrongKind_ValueError : W.kitOne K (.ref A.c_WrongKind) (.type "ValueError") = some true
 krt_NoWay_ValueError : W.kitOne K (.ref A.c_NoWay) (.type "ValueError") = some true
 krt_Ring_ValueError : W.kitOne K (.ref A.c_Ring) (.type "ValueError") = some true
 krt_OutOfReach_ValueError : W.kitOne K (.ref A.c_OutOfReach) (.type "ValueError") = some true
 cl_YesNo : Cls K A.c_YesNo
 ty_YesNo : ∀ (H : Hp) (a dx : Addr) (fs : List (Str × V)), H a = some (.ins A.c_YesNo dx fs) → TyOf K H (.ref a) (.ref A.c_YesNo)
 mk_YesNo : Mk K A.c_YesNo A.f_c_YesNo___init
 me_YesNo_fits : Meth K A.c_YesNo "fits" A.f_c_YesNo_fits
 me_YesNo_answer_of : Meth K A.c_YesNo "answer_of" A.f_c_YesNo_answer_of
 me_YesNo_rank : Meth K A.c_YesNo "rank" A.f_c_YesNo_rank
 no_YesNo_low : NoAttr K A.c_YesNo "low"
 no_YesNo_high : NoAttr K A.c_YesNo "high"
 cl_Ask : Cls K A.c_Ask
 ty_Ask : ∀ (H : Hp) (a dx : Addr) (fs : List (Str × V)), H a = some (.ins A.c_Ask dx fs) → TyOf K H (.ref a) (.ref A.c_Ask)
 mk_Ask : Mk K A.c_Ask A.f_c_Ask___init
 no_Ask_name : NoAttr K A.c_Ask "name"
 no_Ask_kind : NoAttr K A.c_Ask "kind"
 no_Ask_when : NoAttr K A.c_Ask "when"
 cl_Sheet : Cls K A.c_Sheet
 mk_Sheet : Mk K A.c_Sheet A.f_c_Sheet___init
 no_Sheet_name : NoAttr K A.c_Sheet "name"
 no_Sheet_each : NoAttr K A.c_Sheet "each"
 no_Sheet_rows : NoAttr K A.c_Sheet "rows"
 no_Sheet_ways : NoAttr K A.c_Sheet "ways"
 cl_Paper : Cls K A.c_Paper
 mk_Paper : Mk K A.c_Paper A.f_c_Paper___init
 no_Paper_name : NoAttr K A.c_Paper "name"
 no_Paper_sheets : NoAttr K A.c_Paper "sheets"
 no_Paper_totals : NoAttr K A.c_Paper "totals"
 cl_Reach : Cls K A.c_Reach
 mk_Reach : Mk K A.c_Reach A.f_c_Reach___init
 me_Reach_look_at_sheet : Meth K A.c_Reach "look_at_sheet" A.f_c_Reach_look_at_sheet
 me_Reach_look_at_saying : Meth K A.c_Reach "look_at_saying" A.f_c_Reach_look_at_saying
 me_Reach_comes_again : Meth K A.c_Reach "comes_again" A.f_c_Reach_comes_again
 me_Reach_is_within : Meth K A.c_Reach "is_within" A.f_c_Reach_is_within
 me_Reach_reaches_question : Meth K A.c_Reach "reaches_question" A.f_c_Reach_reaches_question
 no_Reach_paper : NoAttr K A.c_Reach "paper"
 no_Reach_spots : NoAttr K A.c_Reach "spots"
 cl_Is : Cls K A.c_Is
 mk_Is : Mk K A.c_Is A.f_c_Is___init
 me_Is_atoms : Meth K A.c_Is "atoms" A.f_c_Is_atoms
 me_Is_settled : Meth K A.c_Is "settled" A.f_c_Is_settled
 no_Is_name : NoAttr K A.c_Is "name"
 no_Is_word : NoAttr K A.c_Is "word"
 no_Is_place : NoAttr K A.c_Is "place"
 cl_Compare : Cls K A.c_Compare
 mk_Compare : Mk K A.c_Compare A.f_c_Compare___init
 me_Compare_atoms : Meth K A.c_Compare "atoms" A.f_c_Compare_atoms
 me_Compare_settled : Meth K A.c_Compare "settled" A.f_c_Compare_settled
 no_Compare_name : NoAttr K A.c_Compare "name"
 no_Compare_how : NoAttr K A.c_Compare "how"
 no_Compare_number : NoAttr K A.c_Compare "number"
 cf_Kind_init : ClsFn K A.c_Kind "__init__" A.f_c_Kind___init
 cf_Row_init : ClsFn K A.c_Row "__init__" A.f_c_Row___init
theorem sc_c_Twice___init : FnScope ["self", "name"] ["self", "name"] (defScope s_c_Twice___init) := ⟨rfl, rfl, rfl, by symm, rfl, by symm, by symm⟩
theorem sc_c_Unknown___init : FnScope ["self", "name"] ["self", "name"] (defScope s_c_Unknown___init) := ⟨rfl, rfl, rfl, by symm, rfl, by symm, by symm⟩
theorem sc_c_WrongKind___init : FnScope ["self", "name"] ["self", "name"] (defScope s_c_WrongKind___init) := ⟨rfl, rfl, rfl, by symm, rfl, by symm, by symm⟩
theorem sc_c_NoWay___init : FnScope ["self", "name"] ["self", "name"] (defScope s_c_NoWay___init) := ⟨rfl, rfl, rfl, by symm, rfl, by symm, by symm⟩
theorem sc_c_OutOfReach___init : FnScope ["self", "name"] ["self", "name"] (defScope s_c_OutOfReach___init) := ⟨rfl, rfl, rfl, by symm, rfl, by symm, by symm⟩
theorem sc_c_Ring___init : FnScope ["self", "ring"] ["self", "ring"] (defScope s_c_Ring___init) := ⟨rfl, rfl, rfl, by symm, rfl, by symm, by symm⟩
theorem sc_c_Kind___init : FnScope ["self", "low", "high"] ["self", "low", "high"] (defScope s_c_Kind___init) := ⟨rfl, rfl, rfl, by symm, rfl, by symm, by symm⟩
theorem sc_c_YesNo___init : FnScope ["self"] ["self"] (defScope s_c_YesNo___init) := ⟨rfl, rfl, rfl, by symm, rfl, by symm, by symm⟩
theorem sc_c_YesNo_fits : FnScope ["self", "thing"] ["self", "thing"] (defScope s_c_YesNo_fits) := ⟨rfl, rfl, rfl, by symm, rfl, by symm, by symm⟩
theorem sc_c_YesNo_answer_of : FnScope ["self", "text"] ["self", "text"] (defScope s_c_YesNo_answer_of) := ⟨rfl, rfl, rfl, by symm, rfl, by symm, by symm⟩
theorem sc_c_YesNo_rank : FnScope ["self", "answer"] ["self", "answer"] (defScope s_c_YesNo_rank) := ⟨rfl, rfl, rfl, by symm, rfl, by symm, by symm⟩
theorem sc_c_Row___init : FnScope ["self", "name"] ["self", "name"] (defScope s_c_Row___init) := ⟨rfl, rfl, rfl, by symm, rfl, by symm, by symm⟩
theorem sc_c_Ask___init : FnScope ["self", "name", "kind", "when"] ["self", "name", "kind", "when"] (defScope s_c_Ask___init) := ⟨rfl, rfl, rfl, by symm, rfl, by symm, by symm⟩
theorem sc_c_Sheet___init : FnScope ["self", "name", "each", "rows", "ways"] ["self", "name", "each", "rows", "ways"] (defScope s_c_Sheet___init) := ⟨rfl, rfl, rfl, by symm, rfl, by symm, by symm⟩
theorem sc_c_Paper___init : FnScope ["self", "name", "sheets", "totals"] ["self", "name", "sheets", "totals"] (defScope s_c_Paper___init) := ⟨rfl, rfl, rfl, by symm, rfl, by symm, by symm⟩
theorem sc_kinds_of : FnScope ["paper", "kinds", "sheet", "row"] ["paper"] (defScope s_kinds_of) := ⟨rfl, rfl, rfl, by symm, rfl, by symm, by symm⟩
theorem sc_names_given : FnScope ["paper", "names", "sheet"] ["paper"] (defScope s_names_given) := ⟨rfl, rfl, rfl, by symm, rfl, by symm, by symm⟩
theorem sc_look_for_twice : FnScope ["paper", "given", "name"] ["paper"] (defScope s_look_for_twice) := ⟨rfl, rfl, rfl, by symm, rfl, by symm, by symm⟩
theorem sc_saying_of : FnScope ["row"] ["row"] (defScope s_saying_of) := ⟨rfl, rfl, rfl, by symm, rfl, by symm, by symm⟩
theorem sc_atoms_of : FnScope ["saying"] ["saying"] (defScope s_atoms_of) := ⟨rfl, rfl, rfl, by symm, rfl, by symm, by symm⟩
theorem sc_look_at_atoms : FnScope ["saying", "kinds", "totals", "atom"] ["saying", "kinds", "totals"] (defScope s_look_at_atoms) := ⟨rfl, rfl, rfl, by symm, rfl, by symm, by symm⟩
theorem sc_look_at_parts : FnScope ["parts", "kinds", "totals", "times", "name"] ["parts", "kinds", "totals"] (defScope s_look_at_parts) := ⟨rfl, rfl, rfl, by symm, rfl, by symm, by symm⟩
theorem sc_look_at_names : FnScope ["paper", "kinds", "totals", "place", "sheet", "row", "targets", "target", "saying", "name", "parts"] ["paper"] (defScope s_look_at_names) := ⟨rfl, rfl, rfl, by symm, rfl, by symm, by symm⟩
theorem sc_sums_in : FnScope ["parts", "totals"] ["parts", "totals"] (defScope s_sums_in) := ⟨rfl, rfl, rfl, by symm, rfl, by symm, by symm⟩
theorem sc_look_for_ring : FnScope ["paper", "totals", "turn", "path", "name"] ["paper"] (defScope s_look_for_ring) := ⟨rfl, rfl, rfl, by symm, rfl, by symm, by symm⟩
theorem sc_c_Reach___init : FnScope ["self", "paper", "place", "sheet", "spot", "row"] ["self", "paper"] (defScope s_c_Reach___init) := ⟨rfl, rfl, rfl, by symm, rfl, by symm, by symm⟩
theorem sc_c_Reach_comes_again : FnScope ["self", "question"] ["self", "question"] (defScope s_c_Reach_comes_again) := ⟨rfl, rfl, rfl, by symm, rfl, by symm, by symm⟩
theorem sc_c_Reach_is_within : FnScope ["self", "question", "here"] ["self", "question", "here"] (defScope s_c_Reach_is_within) := ⟨rfl, rfl, rfl, by symm, rfl, by symm, by symm⟩
theorem sc_c_Reach_reaches_question : FnScope ["self", "question", "here", "known"] ["self", "question", "here"] (defScope s_c_Reach_reaches_question) := ⟨rfl, rfl, rfl, by symm, rfl, by symm, by symm⟩
theorem sc_c_Reach_look_at_saying : FnScope ["self", "saying", "here", "atom", "is_question"] ["self", "saying", "here"] (defScope s_c_Reach_look_at_saying) := ⟨rfl, rfl, rfl, by symm, rfl, by symm, by symm⟩
theorem sc_c_Reach_look_at_sheet : FnScope ["self", "place", "sheet", "sayings", "spot", "saying"] ["self", "place"] (defScope s_c_Reach_look_at_sheet) := ⟨rfl, rfl, rfl, by symm, rfl, by symm, by symm⟩
theorem sc_look_for_reach : FnScope ["paper", "reach", "place"] ["paper"] (defScope s_look_for_reach) := ⟨rfl, rfl, rfl, by symm, rfl, by symm, by symm⟩
theorem sc_look_at : FnScope ["paper"] ["paper"] (defScope s_look_at) := ⟨rfl, rfl, rfl, by symm, rfl, by symm, by symm⟩
theorem sc_c_Is___init : FnScope ["self", "name", "word", "place"] ["self", "name", "word", "place"] (defScope s_c_Is___init) := ⟨rfl, rfl, rfl, by symm, rfl, by symm, by symm⟩
theorem sc_c_Is_atoms : FnScope ["self"] ["self"] (defScope s_c_Is_atoms) := ⟨rfl, rfl, rfl, by symm, rfl, by symm, by symm⟩
theorem sc_c_Is_settled : FnScope ["self", "kinds", "kind", "answer"] ["self", "kinds"] (defScope s_c_Is_settled) := ⟨rfl, rfl, rfl, by symm, rfl, by symm, by symm⟩
theorem sc_c_Compare___init : FnScope ["self", "name", "how", "number"] ["self", "name", "how", "number"] (defScope s_c_Compare___init) := ⟨rfl, rfl, rfl, by symm, rfl, by symm, by symm⟩
theorem sc_c_Compare_atoms : FnScope ["self"] ["self"] (defScope s_c_Compare_atoms) := ⟨rfl, rfl, rfl, by symm, rfl, by symm, by symm⟩
theorem sc_c_Compare_settled : FnScope ["self", "kinds"] ["self", "kinds"] (defScope s_c_Compare_settled) := ⟨rfl, rfl, rfl, by symm, rfl, by symm, by symm⟩
theorem sc_law_cell : FnScope ["_law_script", "_law_k", "_law_number"] ["_law_script", "_law_k"] (defScope s_law_cell) := ⟨rfl, rfl, rfl, by symm, rfl, by symm, by symm⟩
theorem sc_law_name : FnScope ["_law_script", "_law_k", "_law_some", "_law_pad"] ["_law_script", "_law_k"] (defScope s_law_name) := ⟨rfl, rfl, rfl, by symm, rfl, by symm, by symm⟩
theorem sc_law_alone : FnScope ["_law_e", "_law_many"] ["_law_e"] (defScope s_law_alone) := ⟨rfl, rfl, rfl, by symm, rfl, by symm, by symm⟩
theorem sc_law_fault : FnScope ["_law_paper_here", "_law_fault_here", "_law_told", "_law_e"] ["_law_paper_here"] (defScope s_law_fault) := ⟨rfl, rfl, rfl, by symm, rfl, by symm, by symm⟩
theorem sc_law_row : FnScope ["_law_script", "_law_s", "_law_cell_here", "_law_own"] ["_law_script", "_law_s", "_law_cell_here"] (defScope s_law_row) := ⟨rfl, rfl, rfl, by symm, rfl, by symm, by symm⟩
theorem sc_law_way : FnScope ["_law_script", "_law_s", "_law_cell_here", "_law_own", "_law_last"] ["_law_script", "_law_s", "_law_cell_here"] (defScope s_law_way) := ⟨rfl, rfl, rfl, by symm, rfl, by symm, by symm⟩
theorem sc_law_sums : FnScope ["_law_script", "_law_cell_here", "_law_first", "_law_second", "_law_asked", "_law_parts"] ["_law_script", "_law_cell_here"] (defScope s_law_sums) := ⟨rfl, rfl, rfl, by symm, rfl, by symm, by symm⟩
theorem sc_law_paper : FnScope ["_law_script", "_law_cells", "_law_sheets", "_law_named", "_law_reached", "_law_s", "_law_saying", "_law_names", "_law_reach", "_law_way_here", "_law_targets", "_law_beyond", "_law_rows", "_law_name_here", "_law_totals", "_law_rings", "_law_twice"] ["_law_script", "_law_cells"] (defScope s_law_paper) := ⟨rfl, rfl, rfl, by symm, rfl, by symm, by symm⟩
theorem sc_law : FnScope ["_law_script", "_law_turn", "_law_cells", "_law_paper_here", "_law_due"] ["_law_script"] (defScope s_law) := ⟨rfl, rfl, rfl, by symm, rfl, by symm, by symm⟩
end K40
set_option maxHeartbeats 4000000
namespace K40
open PySem L2
seal PE PT PW PA PS PSs PG PGs PI PO PSet OpR UnR CallR TruR IxR SlR PC PPs
local macro_rules | `(tactic| walk_at "rd1") => `(tactic| first
 | (refine And.intro rfl ?_)
 | (refine And.intro (by assumption) ?_)
 | (refine And.intro (fun _ e => e) ?_)
 | (refine And.intro (TyOf.str _) ?_) | (refine And.intro (TyOf.int _) ?_) | (refine And.intro (TyOf.bl _) ?_) | (refine And.intro TyOf.non ?_)
 | (refine iteT ?_) | (refine iteF ?_)
 | (apply Exists.intro))
local macro_rules | `(tactic| walk_at "rd") => `(tactic| repeat (walk_at "rd1"))
theorem len_app (x y : Str) : (x ++ y).length = x.length + y.length := by rw [len_cd, cd_app, List.length_append, ← len_cd, ← len_cd]
theorem seq_mid {t u : TS} {D : Ends} {σ : St} {H : Hp} (R : St → Hp → Prop) (hk : ∀ σ' H', R σ' H' → u D σ' H') (hm : (∀ σ' H', R σ' H' → u D σ' H') → t { D with nx := u D } σ H) : tSeq t u D σ H := hm hk
theorem let_at (i : Int) (h0 : 0 ≤ i) (h1 : i < 26) : atI ("abcdefghijklmnopqrstuvwxyz" : Str).cps.toList i = some (97 + i.toNat) := by
 have e : ("abcdefghijklmnopqrstuvwxyz" : Str).cps.toList = (List.range 26).map (97 + ·) := by symm
 obtain ⟨c, hc, hc2⟩ := at_some (l := ("abcdefghijklmnopqrstuvwxyz" : Str).cps.toList) h0 (by rw [e]; simpa using h1)
 rw [hc]
 rw [e, List.getElem?_map, List.getElem?_range (by omega)] at hc2
 exact hc2.symm
theorem ib_e {x : Int} (h0 : 0 ≤ x) (h : x < 2 ^ 63) : ib x ≤ 60000000 := Nat.le_trans (ib_small (by omega) (by omega)) (by decide)
theorem ibc {x : Int} (h : x.natAbs < 2 ^ 256) : ib x ≤ 60000000 := Nat.le_trans (ib_big (m := 256) h) (by decide)
theorem tt_true {σ : St} {H : Hp} {a b : Hp → Prop} (h : a H) : tTrue σ H (fun c H3 => if c = true then a H3 else b H3) := by
 show if true = true then a H else b H
 exact iteT h
theorem zN {α β : Type} {R R' : α → β → Prop} {as : List α} {bs : List β} (h : Paired R as bs) (f : ∀ a b, R a b → R' a b) : Paired R' as bs := by
 induction h with
 | nil => exact .nil
 | cons r _ ih => exact .cons (f _ _ r) ih
theorem xE {α β : Type} {R : α → β → Prop} {as as' : List α} {bs bs' : List β} (h : Paired R as bs) (k : Paired R as' bs') : Paired R (as ++ as') (bs ++ bs') := by
 induction h with
 | nil => exact k
 | cons r _ ih => exact .cons r ih
theorem yE {α β : Type} {R : α → β → Prop} : ∀ {as : List α} {bs : List β} {i : Nat} {a : α}, Paired R as bs → as[i]? = some a → ∃ b, bs[i]? = some b ∧ R a b
 | _, _, 0, _, .cons h _, e => by cases e; exact ⟨_, rfl, h⟩
 | _, _, i + 1, _, .cons _ t, e => yE (i := i) t e
theorem xJ {α β : Type} {R : α → β → Prop} : ∀ {as : List α} {bs : List β} {i : Nat} {b : β}, Paired R as bs → bs[i]? = some b → ∃ a, as[i]? = some a ∧ R a b
 | _, _, 0, _, .cons h _, e => by cases e; exact ⟨_, rfl, h⟩
 | _, _, i + 1, _, .cons _ t, e => xJ (i := i) t e
theorem zL {α β : Type} {R : α → β → Prop} {as : List α} {bs : List β} (h : Paired R as bs) : as.length = bs.length := Paired.length h
theorem yM {α : Type} {l : List α} {i : Nat} {x : α} (h : l[i]? = some x) : l.take (i + 1) = l.take i ++ [x] := by rw [List.take_succ, h]; rfl
def sqm (m : Int) : Int := m * m % 2147483629
def cellF (ns : List Int) (k : Nat) : Int :=
 if k < ns.length then ns.getD k 0 else sqm (if 0 < ns.length then (k : Int) * 48271 + 11 + ns.getD (k * 7 % ns.length) 0 % 2147483647 * 69621 else (k : Int) * 48271 + 11)
def Ns (ns : List Int) : Prop := ∀ n ∈ ns, ib n ≤ 1048576
def spCell (K : W.Frag) : Sp := fun vs H Q _ => ∃ (a : Addr) (ns : List Int) (k : Nat), vs = [.ref a, .int k] ∧ SqL K H a (ns.map V.int) ∧ k < 1000 ∧ ns.length ≤ 1000 ∧ Ns ns ∧ Q (.int (cellF ns k)) H
section
variable {P : Program} {w : World} {K : W.Frag} {mg : Str → Option Value} {base : Heap} {A : Adr}
theorem ok_law_cell (T : Txt K mg A) : FnOk P w K mg base CX0 1 A.f_law_cell A.d_law_cell ["_law_script", "_law_k"] (spCell K) := by
 refine T.F_law_cell.ok sc_law_cell (fun vs H Q E h => ?_) (fun cdv A0 outer s H vs Q E hr h => ?_)
 · obtain ⟨a, ns, k, rfl, _⟩ := h
   rfl
 obtain ⟨a, ns, k, rfl, hS, hk, hl, hb, q⟩ := h
 refine ⟨_, (zF (yN (yC op_lt (pv 1) (yA yW (by rfl) T.n_len PySem.boot_len (zA (pv 0) zC)) (yJ _)) (zH (zY (xK xG (pv 0) (pv 1) (fun _ _ => rfl)))) zW)
     (zF (zX (i := 2) sc_law_cell.nd rfl (by first | exact Or.inl rfl | exact Or.inr rfl) (zU xR (zU op_mulB (pv 1) zJ) zJ))
     (zF (yN (yC op_gt (yA yW (by rfl) T.n_len PySem.boot_len (zA (pv 0) zC)) zJ (yJ _)) (zH (zX (i := 2) sc_law_cell.nd rfl (by first | exact Or.inl rfl | exact Or.inr rfl) (zU xR (pv 2) (zU op_mulB (zU yU (xK xG (pv 0) (zU yU (zU op_mulB (pv 1) zJ) (yA yW (by rfl) T.n_len PySem.boot_len (zA (pv 0) zC))) (fun _ _ => rfl)) zJ) zJ)))) zW)
     (zH (zY (zU yU (zU op_mulB (pv 2) (pv 2)) zJ)))))), ?_⟩
 have eL : ((ns.map V.int).length : Nat) = ns.length := List.length_map ..
 refine ⟨_, rfl, _, rfl, a, _, rfl, .inl hS, _, _, rfl, rfl, _, rfl, ?_⟩
 refine ite2 (fun c => ?_) (fun c => ?_)
 · have c' : (k : Int) < ((ns.map V.int).length : Nat) := of_decide_eq_true c
   have c2 : k < ns.length := by rw [eL] at c'; omega
   obtain ⟨v, hv, hv2⟩ := at_some (l := ns.map V.int) (i := (k : Int)) (by omega) c'
   obtain ⟨n, hn, rfl⟩ := map_get hv2
   have e : cellF ns k = n := by
     unfold cellF
     rw [if_pos c2, List.getD_eq_getElem?_getD, show ns[k]? = some n from hn]
     rfl
   exact ⟨_, rfl, _, rfl, a, _, _, _, rfl, rfl, hS, hv, by rw [← e]; exact q⟩
 · have c2 : ¬ k < ns.length := fun z => c (decide_eq_true (by rw [eL]; omega))
   unfold cellF at q
   rw [if_neg c2] at q
   refine ⟨_, rfl, _, _, rfl, rfl, ⟨ib_e (by omega) (by omega), ib_e (by omega) (by omega)⟩, _, _, rfl, rfl, ?_⟩
   refine ⟨_, rfl, a, _, rfl, .inl hS, _, _, rfl, rfl, _, rfl, ?_⟩
   refine ite2 (fun d => ?_) (fun d => ?_)
   · have d' : (((ns.map V.int).length : Nat) : Int) > 0 := of_decide_eq_true d
     have d2 : 0 < ns.length := by rw [eL] at d'; omega
     rw [if_pos d2] at q
     have hx : ((k : Int) * 7 % ((ns.map V.int).length : Nat)) = ((k * 7 % ns.length : Nat) : Int) := by rw [eL, Int.natCast_emod, Int.natCast_mul]; rfl
     have hlt : k * 7 % ns.length < ns.length := Nat.mod_lt _ d2
     obtain ⟨v, hv, hv2⟩ := at_some (l := ns.map V.int) (i := (k : Int) * 7 % ((ns.map V.int).length : Nat)) (by rw [hx]; omega) (by rw [hx, eL]; omega)
     obtain ⟨n, hn, rfl⟩ := map_get hv2
     have e : ns.getD (k * 7 % ns.length) 0 = n := by
       rw [hx] at hn
       rw [List.getD_eq_getElem?_getD, show ns[k * 7 % ns.length]? = some n from hn]
       rfl
     rw [e] at q
     have a0 := Int.emod_nonneg n (b := 2147483647) (by decide)
     have a1 := Int.emod_lt_of_pos n (b := 2147483647) (by decide)
     refine ⟨_, rfl, _, rfl, _, rfl, _, _, rfl, rfl, ⟨ib_e (by omega) (by omega), ib_e (by decide) (by decide)⟩, _, rfl, a, _, rfl, .inl hS, _, _, rfl, rfl, (by rw [eL]; omega), a, _, _, _, rfl, rfl, hS, hv, _, _, rfl, rfl, (by show (0 : Int) < 2147483647; decide), _, _, rfl, rfl, ⟨ib_e (by show (0 : Int) ≤ n % 2147483647; omega) (by show n % 2147483647 < 2 ^ 63; omega), ib_e (by decide) (by decide)⟩, _, _, rfl, rfl, ?_⟩
     refine ⟨_, rfl, _, rfl, _, _, rfl, rfl, ⟨ibc ?_, ibc ?_⟩, _, _, rfl, rfl, (by show (0 : Int) < 2147483629; decide), q⟩
     · show ((k : Int) * 48271 + 11 + n % 2147483647 * 69621).natAbs < 2 ^ 256
       omega
     · show ((k : Int) * 48271 + 11 + n % 2147483647 * 69621).natAbs < 2 ^ 256
       omega
   · have d2 : ¬ 0 < ns.length := fun z => d (decide_eq_true (by rw [eL]; omega))
     rw [if_neg d2] at q
     refine ⟨_, rfl, _, rfl, _, _, rfl, rfl, ⟨ibc ?_, ibc ?_⟩, _, _, rfl, rfl, (by show (0 : Int) < 2147483629; decide), q⟩
     · show ((k : Int) * 48271 + 11).natAbs < 2 ^ 256
       omega
     · show ((k : Int) * 48271 + 11).natAbs < 2 ^ 256
       omega
end
def nmF (p : Int) (k : Nat) : Str := S (repN [120] (p % 4).toNat) ++ S [97 + k % 26] ++ S [97 + k / 26 % 26] ++ S (repN [121] (p / 4 % 5).toNat)
theorem rep_le (l : List Nat) (p : Int) (m : Nat) (h : p.toNat ≤ m) (hl : l.length = 1) : (repN l p.toNat).length ≤ m := by rw [repN_len, hl]; omega
theorem nm_cd (p : Int) (k : Nat) : cd (nmF p k) = repN [120] (p % 4).toNat ++ [97 + k % 26] ++ [97 + k / 26 % 26] ++ repN [121] (p / 4 % 5).toNat := by
 unfold nmF
 rw [cd_app, cd_app, cd_app]
 rfl
theorem nm_inj {p : Int} {j k : Nat} (hj : j < 26) (hk : k < 26) (e : nmF p j = nmF p k) : j = k := by
 have e2 := congrArg cd e
 rw [nm_cd, nm_cd, List.append_assoc, List.append_assoc, List.append_assoc, List.append_assoc] at e2
 have e3 := List.append_cancel_left e2
 have e4 := List.head_eq_of_cons_eq e3
 omega
theorem nm_len (p : Int) (k : Nat) : (nmF p k).length ≤ 9 := by
 have a0 := Int.emod_lt_of_pos p (b := 4) (by decide)
 have b0 := Int.emod_lt_of_pos (p / 4) (b := 5) (by decide)
 rw [len_cd, nm_cd, List.length_append, List.length_append, List.length_append, repN_len, repN_len]
 simp only [List.length_cons, List.length_nil]
 omega
def spName (K : W.Frag) : Sp := fun vs H Q _ => ∃ (a : Addr) (ns : List Int) (k : Nat), vs = [.ref a, .int k] ∧ SqL K H a (ns.map V.int) ∧ k < 26 ∧ ns.length ≤ 1000 ∧ Ns ns ∧ Q (.str (nmF (cellF ns 0) k)) H
section
variable {P : Program} {w : World} {K : W.Frag} {mg : Str → Option Value} {base : Heap} {A : Adr}
theorem ok_law_name (T : Txt K mg A) : FnOk P w K mg base CX0 2 A.f_law_name A.d_law_name ["_law_script", "_law_k"] (spName K) := by
 have G_law_cell := ok_law_cell (P := P) (w := w) (base := base) T
 refine T.F_law_name.ok sc_law_name (fun vs H Q E h => ?_) (fun cdv A0 outer s H vs Q E hr h => ?_)
 · obtain ⟨a, ns, k, rfl, _⟩ := h
   rfl
 obtain ⟨a, ns, k, rfl, hS, hk, hl, hb, q⟩ := h
 refine ⟨_, (zF (zX (i := 2) sc_law_name.nd rfl (by first | exact Or.inl rfl | exact Or.inr rfl) zP)
     (zF (zX (i := 3) sc_law_name.nd rfl (by first | exact Or.inl rfl | exact Or.inr rfl) (zV G_law_cell (hr.mono (by first | decide | omega)) rfl T.m_law_cell T.k_law_cell T.b_law_cell .nil yB (zA (pv 0) (zA zJ zC))))
     (zH (zY (zU op_add_str (zU op_add_str (zU op_add_str (zU op_mul_str zP (zU yU (pv 3) zJ)) (xK ix_str (pv 2) (zU yU (pv 1) zJ) (fun _ _ => rfl))) (xK ix_str (pv 2) (zU yU (zU op_fdiv (pv 1) zJ) zJ) (fun _ _ => rfl))) (zU op_mul_str zP (zU yU (zU op_fdiv (pv 3) zJ) zJ))))))), ?_⟩
 refine ⟨_, rfl, a, ns, 0, rfl, hS, by decide, hl, hb, ?_⟩
 generalize cellF ns 0 = p at q
 have a0 := Int.emod_nonneg p (b := 4) (by decide)
 have a1 := Int.emod_lt_of_pos p (b := 4) (by decide)
 have b0 := Int.emod_nonneg (p / 4) (b := 5) (by decide)
 have b1 := Int.emod_lt_of_pos (p / 4) (b := 5) (by decide)
 have r1 := rep_le [120] (p % 4) 4 (by omega) rfl
 have r2 := rep_le [121] (p / 4 % 5) 5 (by omega) rfl
 have l1 : (S (repN (cd (Str.ofString "x")) (p % 4).toNat)).length ≤ 4 := by rw [len_cd, cd_S]; exact r1
 have l2 : (S (repN (cd (Str.ofString "y")) (p / 4 % 5).toNat)).length ≤ 5 := by rw [len_cd, cd_S]; exact r2
 have lx : (Str.ofString "x").length = 1 := by symm
 have ly : (Str.ofString "y").length = 1 := by symm
 have lz : ("abcdefghijklmnopqrstuvwxyz" : Str).length = 26 := by symm
 have k0 : ((k : Int) % 26).toNat = k % 26 := by omega
 have k1 : ((k : Int) / 26 % 26).toNat = k / 26 % 26 := by omega
 have c0 := let_at ((k : Int) % 26) (by omega) (by omega)
 have c1 := let_at ((k : Int) / 26 % 26) (by omega) (by omega)
 rw [k0] at c0
 rw [k1] at c1
 have ls : ∀ c : Nat, (⟨#[c]⟩ : Str).length = 1 := fun c => rfl
 refine ⟨_, rfl, _, _, rfl, rfl, (by show (0 : Int) < 4; decide), _, _, rfl, rfl, a0, (by omega), (by rw [lx]; omega), (by rw [lx]; omega), ?_⟩
 refine ⟨_, rfl, _, rfl, _, _, rfl, rfl, (by show (0 : Int) < 26; decide), _, _, _, rfl, rfl, (by rw [lz, sizeLine_eq]; omega), c0, ?_⟩
 refine ⟨_, _, rfl, rfl, (by rw [sizeLine_eq]; have := ls (97 + k % 26); omega), ?_⟩
 refine ⟨_, rfl, _, rfl, _, _, rfl, rfl, ⟨by decide, by decide⟩, _, _, rfl, rfl, (by show (0 : Int) < 26; decide), _, _, _, rfl, rfl, (by rw [lz, sizeLine_eq]; omega), c1, ?_⟩
 refine ⟨_, _, rfl, rfl, (by rw [sizeLine_eq, len_app]; have := ls (97 + k % 26); have := ls (97 + k / 26 % 26); omega), ?_⟩
 refine ⟨_, rfl, _, _, rfl, rfl, ⟨by decide, by decide⟩, _, _, rfl, rfl, (by show (0 : Int) < 5; decide), _, _, rfl, rfl, b0, (by omega), (by rw [ly]; omega), (by rw [ly]; omega), ?_⟩
 exact ⟨_, _, rfl, rfl, (by rw [sizeLine_eq, len_app, len_app]; have := ls (97 + k % 26); have := ls (97 + k / 26 % 26); omega), q⟩
end
end K40
set_option maxHeartbeats 4000000
namespace K40
open PySem L2
seal PE PT PW PA PS PSs PG PGs PI PO PSet OpR UnR CallR TruR IxR SlR PC PPs
local macro_rules | `(tactic| walk_at "rd1") => `(tactic| first
 | (refine And.intro rfl ?_)
 | (refine And.intro (by assumption) ?_)
 | (refine And.intro (fun _ e => e) ?_)
 | (refine And.intro (TyOf.str _) ?_) | (refine And.intro (TyOf.int _) ?_) | (refine And.intro (TyOf.bl _) ?_) | (refine And.intro TyOf.non ?_)
 | (refine iteT ?_) | (refine iteF ?_)
 | (apply Exists.intro))
local macro_rules | `(tactic| walk_at "rd") => `(tactic| repeat (walk_at "rd1"))
theorem yX {H : Hp} {a b : Addr} {o : HO} (h : upd H a o b = none) : b ≠ a ∧ H b = none := by
 by_cases e : b = a
 · subst e; rw [zB] at h; cases h
 · exact ⟨e, by rw [zK e] at h; exact h⟩
theorem yF {H H' : Hp} (s : Same H H') {b : Addr} (h : H' b = none) : H b = none := by
 cases e : H b with
 | none => rfl
 | some o => rw [s b o e] at h; cases h
def Fr (M : List Addr) (H H' : Hp) : Prop := ∀ b o, H b = some o → b ∉ M → H' b = some o
theorem Fr.of {M : List Addr} {H H' : Hp} (s : Same H H') : Fr M H H' := fun b o h _ => s b o h
theorem Fr.trans {M : List Addr} {H H' H'' : Hp} (a : Fr M H H') (b : Fr M H' H'') : Fr M H H'' := fun x o h n => b x o (a x o h n) n
theorem Fr.upd {M : List Addr} {H H' : Hp} (a : Fr M H H') {m : Addr} (h : m ∈ M) (o : HO) : Fr M H (upd H' m o) := fun x u hx n => by
 rw [zK (fun e => n (by rw [e]; exact h))]; exact a x u hx n
theorem Fr.new {M : List Addr} {H H' : Hp} (a : Fr M H H') {m : Addr} (h : H' m = none) (o : HO) : Fr M H (L2.upd H' m o) := fun x u hx n => by
 have := a x u hx n
 rw [zK (zI this h)]; exact this
theorem Fr.more {M M' : List Addr} {H H' : Hp} (a : Fr M H H') (h : ∀ m ∈ M, m ∈ M') : Fr M' H H' := fun x u hx n => a x u hx fun e => n (h x e)
theorem ni1 {x a : Addr} (h : x ≠ a) : x ∉ [a] := fun e => h (List.mem_singleton.mp e)
abbrev oAsk (A : Adr) (dx : Addr) (u1 u2 u3 : V) : HO := .ins A.c_Ask dx [("name", u1), ("kind", u2), ("when", u3)]
abbrev oSh (A : Adr) (dx : Addr) (u1 u2 : V) (q1 q2 : Addr) : HO := .ins A.c_Sheet dx [("name", u1), ("each", u2), ("rows", .ref q1), ("ways", .ref q2)]
abbrev oPa (A : Adr) (dx : Addr) (u1 : V) (q1 q2 : Addr) : HO := .ins A.c_Paper dx [("name", u1), ("sheets", .ref q1), ("totals", .ref q2)]
def spRowI (K : W.Frag) : Sp := fun vs H Q _ => ∃ p C dx u1, vs = [.ref p, u1] ∧ H p = some (.ins C dx []) ∧ Cls K C ∧ NoAttr K C "name" ∧ Q .non (upd H p (.ins C dx [("name", u1)]))
def spAskI (A : Adr) : Sp := fun vs H Q _ => ∃ p dx u1 u2 u3, vs = [.ref p, u1, u2, u3] ∧ H p = some (.ins A.c_Ask dx []) ∧ Q .non (upd H p (oAsk A dx u1 u2 u3))
def spSheetI (A : Adr) (K : W.Frag) : Sp := fun vs H Q _ => ∃ p dx u1 u2 l1 l2 xs ys, vs = [.ref p, u1, u2, .ref l1, .ref l2] ∧ H p = some (.ins A.c_Sheet dx []) ∧ H l1 = some (.lst xs) ∧ H l2 = some (.lst ys) ∧
 ∀ q1 q2 H', q1 ≠ q2 → H q1 = none → H q2 = none → Fr [p] H H' → H' p = some (oSh A dx u1 u2 q1 q2) → H' q1 = some (.lst xs) → H' q2 = some (.lst ys) → Q .non H'
abbrev Part := Int × Option Str
def nv : Option Str → V
 | none => .non
 | some z => .str z
def PtR (H : Hp) (x : V) (p : Part) : Prop := ∃ a, x = .ref a ∧ H a = some (.tup [.int p.1, nv p.2])
def PsR (H : Hp) (l : Addr) (ps : List Part) : Prop := ∃ xs, H l = some (.lst xs) ∧ Paired (PtR H) xs ps
abbrev Tot := Str × List Part
def TtR (H : Hp) (x : V) (t : Tot) : Prop := ∃ a l, x = .ref a ∧ H a = some (.tup [.str t.1, .ref l]) ∧ PsR H l t.2
def TsR (H : Hp) (l : Addr) (ts : List Tot) : Prop := ∃ xs, H l = some (.lst xs) ∧ Paired (TtR H) xs ts
def Kp (H H' : Hp) : Prop := ∀ b o, H b = some o → ((∃ t, o = .tup t) ∨ ∃ l, o = .lst l) → H' b = some o
theorem Kp.of {H H' : Hp} (s : Same H H') : Kp H H' := fun b o h _ => s b o h
theorem Fr.kp {p : Addr} {H H' : Hp} {C dx : Addr} {fs : List (Str × V)} (F : Fr [p] H H') (hp : H p = some (.ins C dx fs)) : Kp H H' := fun b o h k => F b o h (ni1 (ne_of h hp (by
 rcases k with ⟨t, rfl⟩ | ⟨l, rfl⟩ <;> (intro z; cases z))))
theorem PtR.kp {H H' : Hp} (s : Kp H H') {x : V} {p : Part} (h : PtR H x p) : PtR H' x p := let ⟨a, e, h1⟩ := h; ⟨a, e, s _ _ h1 (.inl ⟨_, rfl⟩)⟩
theorem PsR.kp {H H' : Hp} (s : Kp H H') {l : Addr} {ps : List Part} (h : PsR H l ps) : PsR H' l ps := let ⟨xs, e, h1⟩ := h; ⟨xs, s _ _ e (.inr ⟨_, rfl⟩), zN h1 fun _ _ r => r.kp s⟩
theorem TtR.kp {H H' : Hp} (s : Kp H H') {x : V} {t : Tot} (h : TtR H x t) : TtR H' x t := let ⟨a, l, e, h1, h2⟩ := h; ⟨a, l, e, s _ _ h1 (.inl ⟨_, rfl⟩), h2.kp s⟩
theorem TsR.kp {H H' : Hp} (s : Kp H H') {l : Addr} {ts : List Tot} (h : TsR H l ts) : TsR H' l ts := let ⟨xs, e, h1⟩ := h; ⟨xs, s _ _ e (.inr ⟨_, rfl⟩), zN h1 fun _ _ r => r.kp s⟩
def spInit (K : W.Frag) : Sp := fun vs H Q _ => ∃ p C dx lo hi, vs = [.ref p, lo, hi] ∧ H p = some (.ins C dx []) ∧ Cls K C ∧ NoAttr K C "low" ∧ NoAttr K C "high" ∧ Q .non (upd H p (.ins C dx [("low", lo), ("high", hi)]))
def spPaperI (A : Adr) (K : W.Frag) : Sp := fun vs H Q _ => ∃ p dx u1 l1 l2 xs ts, vs = [.ref p, u1, .ref l1, .ref l2] ∧ H p = some (.ins A.c_Paper dx []) ∧ H l1 = some (.lst xs) ∧ TsR H l2 ts ∧ ts.length ≤ 100 ∧
 ∀ q1 q2 H', Fr [p] H H' → H' p = some (oPa A dx u1 q1 q2) → H' q1 = some (.lst xs) → TsR H' q2 ts → Q .non H'
section
variable {P : Program} {w : World} {K : W.Frag} {mg : Str → Option Value} {base : Heap} {A : Adr}
theorem ok_kind_init (T : Txt K mg A) : FnOk P w K mg base CX0 1 A.f_c_Kind___init A.d_c_Kind___init ["self", "low", "high"] (spInit K) := by
 refine T.F_c_Kind___init.ok sc_c_Kind___init (fun vs H Q E h => ?_) (fun cdv A0 outer s H vs Q E hr h => ?_)
 · obtain ⟨p, C, dx, lo, hi, rfl, _⟩ := h
   rfl
 obtain ⟨p, C, dx, lo, hi, rfl, hp, cl, n1, n2, q⟩ := h
 refine ⟨_, (zF (yV (pv 0) (pv 1) rfl)
     (zH (yV (pv 0) (pv 2) rfl))), ?_⟩
 refine ⟨_, rfl, _, rfl, p, C, dx, _, rfl, hp, cl, n1, by decide, ?_⟩
 refine ⟨_, rfl, _, rfl, p, C, dx, _, rfl, zB, cl, n2, (by show 1 < 1000; decide), ?_⟩
 rw [yO]
 exact q
theorem ok_row_init (T : Txt K mg A) : FnOk P w K mg base CX0 1 A.f_c_Row___init A.d_c_Row___init ["self", "name"] (spRowI K) := by
 refine T.F_c_Row___init.ok sc_c_Row___init (fun vs H Q E h => ?_) (fun cdv A0 outer s H vs Q E hr h => ?_)
 · obtain ⟨p, C, dx, u1, rfl, _⟩ := h
   rfl
 obtain ⟨p, C, dx, u1, rfl, hp, cl, na, q⟩ := h
 refine ⟨_, (zH (yV (pv 0) (pv 1) rfl)), ?_⟩
 exact ⟨_, rfl, _, rfl, p, _, dx, _, rfl, hp, cl, na, by decide, q⟩
theorem ok_ask_init (T : Txt K mg A) : FnOk P w K mg base CX0 3 A.f_c_Ask___init A.d_c_Ask___init ["self", "name", "kind", "when"] (spAskI A) := by
 have G_c_Row___init := ok_row_init (P := P) (w := w) (base := base) T
 refine T.F_c_Ask___init.ok sc_c_Ask___init (fun vs H Q E h => ?_) (fun cdv A0 outer s H vs Q E hr h => ?_)
 · obtain ⟨p, dx, u1, u2, u3, rfl, _⟩ := h
   rfl
 obtain ⟨p, dx, u1, u2, u3, rfl, hp, q⟩ := h
 refine ⟨_, (zF (yI (pe_clsfn T.cf_Row_init G_c_Row___init (hr.mono (by first | decide | omega)) rfl T.m_Row T.b_c_Row___init yB (zA (pv 0) (zA (pv 1) zC))))
     (zF (yV (pv 0) (pv 2) rfl)
     (zH (yV (pv 0) (pv 3) rfl)))), ?_⟩
 refine ⟨_, rfl, _, rfl, p, _, dx, u1, rfl, hp, T.cl_Ask, T.no_Ask_name, ?_⟩
 refine ⟨_, rfl, _, rfl, p, _, dx, _, rfl, zB, T.cl_Ask, T.no_Ask_kind, (by show 1 < 1000; decide), ?_⟩
 refine ⟨_, rfl, _, rfl, p, _, dx, _, rfl, zB, T.cl_Ask, T.no_Ask_when, (by show 2 < 1000; decide), ?_⟩
 rw [yO, yO]
 exact q
theorem ok_sheet_init (T : Txt K mg A) : FnOk P w K mg base CX0 1 A.f_c_Sheet___init A.d_c_Sheet___init ["self", "name", "each", "rows", "ways"] (spSheetI A K) := by
 refine T.F_c_Sheet___init.ok sc_c_Sheet___init (fun vs H Q E h => ?_) (fun cdv A0 outer s H vs Q E hr h => ?_)
 · obtain ⟨p, dx, u1, u2, l1, l2, xs, ys, rfl, _⟩ := h
   rfl
 obtain ⟨p, dx, u1, u2, l1, l2, xs, ys, rfl, hp, h1, h2, q⟩ := h
 refine ⟨_, (zF (yV (pv 0) (pv 1) rfl)
     (zF (yV (pv 0) (pv 2) rfl)
     (zF (yV (pv 0) (yH xP (by rfl) T.n_list Bt.list (zA (pv 3) zC)) rfl)
     (zH (yV (pv 0) (yH xP (by rfl) T.n_list Bt.list (zA (pv 4) zC)) rfl))))), ?_⟩
 have n1 : l1 ≠ p := ne_of h1 hp (by intro z; cases z)
 have n2 : l2 ≠ p := ne_of h2 hp (by intro z; cases z)
 refine ⟨_, rfl, _, rfl, p, _, dx, _, rfl, hp, T.cl_Sheet, T.no_Sheet_name, by decide, ?_⟩
 refine ⟨_, rfl, _, rfl, p, _, dx, _, rfl, zB, T.cl_Sheet, T.no_Sheet_each, (by show 1 < 1000; decide), ?_⟩
 rw [yO]
 refine ⟨_, rfl, l1, xs, rfl, .inl (SqL.of (by rw [zK n1]; exact h1)), fun q1 hq1 => ?_⟩
 obtain ⟨e1, f1⟩ := yX hq1
 refine ⟨_, rfl, p, _, dx, _, rfl, (by rw [zK (Ne.symm e1)]; exact zB), T.cl_Sheet, T.no_Sheet_rows, (by show 2 < 1000; decide), ?_⟩
 refine ⟨_, rfl, l2, ys, rfl, .inl (SqL.of (by rw [zK n2, zK (zI h2 f1), zK n2]; exact h2)), fun q2 hq2 => ?_⟩
 obtain ⟨e2, g2⟩ := yX hq2
 obtain ⟨e3, g3⟩ := yX g2
 obtain ⟨e4, f2⟩ := yX g3
 refine ⟨_, rfl, p, _, dx, _, rfl, (by rw [zK (Ne.symm e2)]; exact zB), T.cl_Sheet, T.no_Sheet_ways, (by show 3 < 1000; decide), ?_⟩
 refine q q1 q2 _ (Ne.symm e3) f1 f2 (fun b o hb hn => ?_) zB ?_ ?_
 · have nb : b ≠ p := fun e => hn (by rw [e]; exact List.mem_singleton.mpr rfl)
   rw [zK nb, zK (zI hb f2), zK nb, zK (zI hb f1), zK nb]; exact hb
 · rw [zK e1, zK (Ne.symm e3), zK e1]; exact zB
 · rw [zK e2]; exact zB
theorem ok_paper_init (T : Txt K mg A) : FnOk P w K mg base CX0 1 A.f_c_Paper___init A.d_c_Paper___init ["self", "name", "sheets", "totals"] (spPaperI A K) := by
 refine T.F_c_Paper___init.ok sc_c_Paper___init (fun vs H Q E h => ?_) (fun cdv A0 outer s H vs Q E hr h => ?_)
 · obtain ⟨p, dx, u1, l1, l2, xs, ts, rfl, _⟩ := h
   rfl
 obtain ⟨p, dx, u1, l1, l2, xs, ts, rfl, hp, h1, ht, hz, q⟩ := h
 obtain ⟨ys, h2, hys⟩ := id ht
 refine ⟨_, (zF (yV (pv 0) (pv 1) rfl)
     (zF (yV (pv 0) (yH xP (by rfl) T.n_list Bt.list (zA (pv 2) zC)) rfl)
     (zH (yV (pv 0) (pe_compT (compOk2_of (xF (x := "total") (M := ["self", "name", "sheets", "totals"]) rfl (by rfl)) (by rfl) (by symm)) rfl (yR (pv 3)) (fun _ _ _ _ => pifs_nil) (fun _ _ _ _ => pe_eqv (by exact (zM (zA (pv 0) (zA (yH xP (by rfl) T.n_list Bt.list (zA (pv 1) zC)) zC)))) (by dsimp only [compCx2] <;> rfl))) rfl)))), ?_⟩
 have n1 : l1 ≠ p := ne_of h1 hp (by intro z; cases z)
 have n2 : l2 ≠ p := ne_of h2 hp (by intro z; cases z)
 refine ⟨_, rfl, _, rfl, p, _, dx, _, rfl, hp, T.cl_Paper, T.no_Paper_name, by decide, ?_⟩
 refine ⟨_, rfl, l1, xs, rfl, .inl (SqL.of (by rw [zK n1]; exact h1)), fun q1 hq1 => ?_⟩
 obtain ⟨e1, f1⟩ := yX hq1
 refine ⟨_, rfl, p, _, dx, _, rfl, (by rw [zK (Ne.symm e1)]; exact zB), T.cl_Paper, T.no_Paper_sheets, (by show 1 < 1000; decide), ?_⟩
 generalize hG : upd (upd (upd H p (.ins A.c_Paper dx (putF (Str.ofString "name") u1 []))) q1 (.lst xs)) p (.ins A.c_Paper dx (putF (Str.ofString "sheets") (V.ref q1) (putF (Str.ofString "name") u1 []))) = H1
 have F1 : Fr [p] H H1 := by rw [← hG]; exact (((Fr.of (Same.refl _)).upd (List.mem_singleton.mpr rfl) _).new hq1 _).upd (List.mem_singleton.mpr rfl) _
 have hp1 : H1 p = some (.ins A.c_Paper dx [("name", u1), ("sheets", .ref q1)]) := by rw [← hG]; exact zB
 have hq1' : H1 q1 = some (.lst xs) := by rw [← hG, zK e1]; exact zB
 have hl2 : H1 l2 = some (.lst ys) := F1 _ _ h2 (ni1 n2)
 have K1 : Kp H H1 := F1.kp hp
 have lys : ys.length ≤ 100 := by rw [zL hys]; exact hz
 refine ⟨_, rfl, l2, rfl, ⟨_, SqL.of hl2⟩, ?_⟩
 refine comp_listT (xs := ys) (yP (m := 100) lys) (fun i zs H' => Same H1 H' ∧ Paired (TtR H') zs (ts.take i)) ⟨Same.refl _, .nil⟩ (fun i zs H' hw => SqL.of (hw.1 _ _ hl2)) (fun i x zs H' hx hlen hw => ?_) (fun zs H' hw p2 hp2 => ?_)
 · obtain ⟨s1, hp'⟩ := hw
   obtain ⟨t, ht', a, l, rfl, ha, us, hus, hpu⟩ := yE hys hx
   have k2 : Kp H H' := fun b o h k => s1 _ _ (K1 b o h k)
   refine ⟨a, .str t.1, .ref l, rfl, SqT.of (k2 _ _ ha (.inl ⟨_, rfl⟩)), tt_true ?_⟩
   refine ⟨_, rfl, _, rfl, l, us, rfl, .inl (SqL.of (k2 _ _ hus (.inr ⟨_, rfl⟩))), fun l' hl' => ?_⟩
   have s2 := zD hl' (.lst us)
   refine ⟨(by show 2 ≤ sizeLine; decide), fun a' ha' => ?_⟩
   have s3 := zD ha' (.tup [.str t.1, .ref l'])
   refine ⟨(s1.trans s2).trans s3, ?_⟩
   rw [yM ht']
   exact xE (zN hp' fun _ _ r => r.kp (.of (s2.trans s3))) (.cons ⟨a', l', rfl, zB, us, s3 _ _ zB, zN hpu fun _ _ r => (r.kp k2).kp (.of (s2.trans s3))⟩ .nil)
 obtain ⟨s1, hp'⟩ := hw
 rw [zL hys, List.take_length] at hp'
 have s2 := s1.trans (zD hp2 (.lst zs))
 have np2 : p2 ≠ p := fun e => by rw [e, s1 _ _ hp1] at hp2; cases hp2
 refine ⟨_, rfl, p, _, dx, _, rfl, s2 _ _ hp1, T.cl_Paper, T.no_Paper_totals, (by show 2 < 1000; decide), ?_⟩
 have F2 : Fr [p] H1 (upd (upd H' p2 (.lst zs)) p (oPa A dx u1 q1 p2)) := (Fr.of s2).upd (List.mem_singleton.mpr rfl) _
 have K3 : Kp (upd H' p2 (.lst zs)) (upd (upd H' p2 (.lst zs)) p (oPa A dx u1 q1 p2)) := ((Fr.of (Same.refl _)).upd (List.mem_singleton.mpr rfl) _ : Fr [p] _ _).kp (s2 _ _ hp1)
 refine q q1 p2 _ (F1.trans F2) zB (F2 _ _ hq1' (ni1 e1)) ?_
 refine TsR.kp K3 ⟨zs, zB, zN hp' fun _ _ r => r.kp (.of (zD hp2 (.lst zs)))⟩
abbrev oCm (A : Adr) (dx : Addr) (u1 u2 u3 : V) : HO := .ins A.c_Compare dx [("name", u1), ("how", u2), ("number", u3)]
abbrev oIs (A : Adr) (dx : Addr) (u1 u2 u3 : V) : HO := .ins A.c_Is dx [("name", u1), ("word", u2), ("place", u3)]
def YF (fs : List (Str × V)) : Prop := fs.lookup (Str.ofString "fits") = none ∧ fs.lookup (Str.ofString "answer_of") = none ∧ fs.lookup (Str.ofString "rank") = none
abbrev YFs := {fs : List (Str × V) // YF fs}
def spCmpI (A : Adr) : Sp := fun vs H Q _ => ∃ p dx u1 u2 u3, vs = [.ref p, u1, u2, u3] ∧ H p = some (.ins A.c_Compare dx []) ∧ Q .non (upd H p (oCm A dx u1 u2 u3))
def spIsI (A : Adr) : Sp := fun vs H Q _ => ∃ p dx u1 u2 u3, vs = [.ref p, u1, u2, u3] ∧ H p = some (.ins A.c_Is dx []) ∧ Q .non (upd H p (oIs A dx u1 u2 u3))
def spYInit (A : Adr) : Sp := fun vs H Q _ => ∃ p dx, vs = [.ref p] ∧ H p = some (.ins A.c_YesNo dx []) ∧ ∀ fs : YFs, Q .non (upd H p (.ins A.c_YesNo dx fs.1))
theorem ok_is_init (T : Txt K mg A) : FnOk P w K mg base CX0 1 A.f_c_Is___init A.d_c_Is___init ["self", "name", "word", "place"] (spIsI A) := by
 refine T.F_c_Is___init.ok sc_c_Is___init (fun vs H Q E h => ?_) (fun cdv A0 outer s H vs Q E hr h => ?_)
 · obtain ⟨p, dx, u1, u2, u3, rfl, _⟩ := h
   rfl
 obtain ⟨p, dx, u1, u2, u3, rfl, hp, q⟩ := h
 refine ⟨_, (zF (yV (pv 0) (pv 1) rfl)
     (zF (yV (pv 0) (pv 2) rfl)
     (zH (yV (pv 0) (pv 3) rfl)))), ?_⟩
 refine ⟨_, rfl, _, rfl, p, _, dx, _, rfl, hp, T.cl_Is, T.no_Is_name, by decide, ?_⟩
 refine ⟨_, rfl, _, rfl, p, _, dx, _, rfl, zB, T.cl_Is, T.no_Is_word, (by show 1 < 1000; decide), ?_⟩
 refine ⟨_, rfl, _, rfl, p, _, dx, _, rfl, zB, T.cl_Is, T.no_Is_place, (by show 2 < 1000; decide), ?_⟩
 rw [yO, yO]
 exact q
theorem ok_cmp_init (T : Txt K mg A) : FnOk P w K mg base CX0 1 A.f_c_Compare___init A.d_c_Compare___init ["self", "name", "how", "number"] (spCmpI A) := by
 refine T.F_c_Compare___init.ok sc_c_Compare___init (fun vs H Q E h => ?_) (fun cdv A0 outer s H vs Q E hr h => ?_)
 · obtain ⟨p, dx, u1, u2, u3, rfl, _⟩ := h
   rfl
 obtain ⟨p, dx, u1, u2, u3, rfl, hp, q⟩ := h
 refine ⟨_, (zF (yV (pv 0) (pv 1) rfl)
     (zF (yV (pv 0) (pv 2) rfl)
     (zH (yV (pv 0) (pv 3) rfl)))), ?_⟩
 refine ⟨_, rfl, _, rfl, p, _, dx, _, rfl, hp, T.cl_Compare, T.no_Compare_name, by decide, ?_⟩
 refine ⟨_, rfl, _, rfl, p, _, dx, _, rfl, zB, T.cl_Compare, T.no_Compare_how, (by show 1 < 1000; decide), ?_⟩
 refine ⟨_, rfl, _, rfl, p, _, dx, _, rfl, zB, T.cl_Compare, T.no_Compare_number, (by show 2 < 1000; decide), ?_⟩
 rw [yO, yO]
 exact q
theorem ok_yinit (T : Txt K mg A) : FnOk P w K mg base CX0 3 A.f_c_YesNo___init A.d_c_YesNo___init ["self"] (spYInit A) := by
 have G_c_Kind___init := ok_kind_init (P := P) (w := w) (base := base) T
 refine T.F_c_YesNo___init.ok sc_c_YesNo___init (fun vs H Q E h => ?_) (fun cdv A0 outer s H vs Q E hr h => ?_)
 · obtain ⟨p, dx, rfl, _⟩ := h
   rfl
 obtain ⟨p, dx, rfl, hp, q⟩ := h
 refine ⟨_, (zH (yI (pe_clsfn T.cf_Kind_init G_c_Kind___init (hr.mono (by first | decide | omega)) rfl T.m_Kind T.b_c_Kind___init yB (zA (pv 0) (zA zJ (zA zJ zC)))))), ?_⟩
 exact ⟨_, rfl, p, _, dx, _, _, rfl, hp, T.cl_YesNo, T.no_YesNo_low, T.no_YesNo_high, q ⟨[("low", .int 0), ("high", .int 1)], by symm, by symm, by symm⟩⟩
end
inductive At where
 | is (z : Str) (b : Bool)
 | cmp (z : Str) (n : Int)
def At.nm : At → Str
 | .is z _ => z
 | .cmp z _ => z
abbrev zG : Str := Str.ofString ">"
def wd (b : Bool) : Str := if b then Str.ofString "yes" else Str.ofString "no"
def AtR (A : Adr) (H : Hp) (s : Addr) : At → Prop
 | .is z b => ∃ ds, H s = some (oIs A ds (.str z) (.str (wd b)) .non)
 | .cmp z n => ∃ ds, H s = some (oCm A ds (.str z) (.str zG) (.int n))
def SyR (A : Adr) (H : Hp) (v : V) : Option At → Prop
 | none => v = .non
 | some a => ∃ s, v = .ref s ∧ AtR A H s a
abbrev Rw := Str × Option At
def RowR (A : Adr) (H : Hp) (x : V) (r : Rw) : Prop := ∃ (a dx kd dk : Addr) (sv : V) (fs : YFs), x = .ref a ∧ H a = some (oAsk A dx (.str r.1) (.ref kd) sv) ∧ H kd = some (.ins A.c_YesNo dk fs.1) ∧ SyR A H sv r.2
abbrev Wy := Str × Option At
def WyR (A : Adr) (H : Hp) (x : V) (y : Wy) : Prop := ∃ a v, x = .ref a ∧ H a = some (.tup [.str y.1, v]) ∧ SyR A H v y.2
structure Sh where
 nm : Str
 rows : List Rw
 ways : List Wy
def ShR (A : Adr) (H : Hp) (x : V) (t : Sh) : Prop := ∃ a dx r y xs ys, x = .ref a ∧ H a = some (oSh A dx (.str t.nm) .non r y) ∧ H r = some (.lst xs) ∧ H y = some (.lst ys) ∧ Paired (RowR A H) xs t.rows ∧ Paired (WyR A H) ys t.ways
def PaR (A : Adr) (H : Hp) (a : Addr) (sh : List Sh) (ts : List Tot) : Prop := ∃ dx u q1 q2 xs, H a = some (oPa A dx u q1 q2) ∧ H q1 = some (.lst xs) ∧ Paired (ShR A H) xs sh ∧ TsR H q2 ts
theorem AtR.same {A : Adr} {H H' : Hp} (s : Same H H') {x : Addr} : ∀ {a : At}, AtR A H x a → AtR A H' x a
 | .is .., h => let ⟨d, h1⟩ := h; ⟨d, s _ _ h1⟩
 | .cmp .., h => let ⟨d, h1⟩ := h; ⟨d, s _ _ h1⟩
theorem SyR.same {A : Adr} {H H' : Hp} (s : Same H H') {v : V} : ∀ {o : Option At}, SyR A H v o → SyR A H' v o
 | none, h => h
 | some _, h => let ⟨a, e, h1⟩ := h; ⟨a, e, h1.same s⟩
theorem RowR.same {A : Adr} {H H' : Hp} (s : Same H H') {x : V} {r : Rw} (h : RowR A H x r) : RowR A H' x r :=
 let ⟨a, dx, kd, dk, sv, fs, e, h1, h2, h3⟩ := h; ⟨a, dx, kd, dk, sv, fs, e, s _ _ h1, s _ _ h2, h3.same s⟩
theorem WyR.same {A : Adr} {H H' : Hp} (s : Same H H') {x : V} {y : Wy} (h : WyR A H x y) : WyR A H' x y := let ⟨a, v, e, h1, h2⟩ := h; ⟨a, v, e, s _ _ h1, h2.same s⟩
theorem ShR.same {A : Adr} {H H' : Hp} (s : Same H H') {x : V} {t : Sh} (h : ShR A H x t) : ShR A H' x t :=
 let ⟨a, dx, r, y, xs, ys, e, h1, h2, h3, h4, h5⟩ := h
 ⟨a, dx, r, y, xs, ys, e, s _ _ h1, s _ _ h2, s _ _ h3, zN h4 fun _ _ q => q.same s, zN h5 fun _ _ q => q.same s⟩
theorem PaR.same {A : Adr} {H H' : Hp} (s : Same H H') {a : Addr} {sh : List Sh} {ts : List Tot} (h : PaR A H a sh ts) : PaR A H' a sh ts :=
 let ⟨dx, u, q1, q2, xs, h1, h2, h3, h4⟩ := h
 ⟨dx, u, q1, q2, xs, s _ _ h1, s _ _ h2, zN h3 fun _ _ q => q.same s, h4.kp (.of s)⟩
inductive Fc where
 | tw | un | wr | nw | rg | re | no
def fw : Fc → Str
 | .tw => Str.ofString "twice"
 | .un => Str.ofString "unknown"
 | .wr => Str.ofString "wrong"
 | .nw => Str.ofString "noway"
 | .rg => Str.ofString "ring"
 | .re => Str.ofString "reach"
 | .no => Str.ofString "none"
abbrev Flt := Fc × Str
def FlR (H : Hp) (x : V) (f : Flt) : Prop := ∃ t, x = .ref t ∧ H t = some (.tup [.str (fw f.1), .str f.2])
def FlL (H : Hp) (l : Addr) (fs : List Flt) : Prop := ∃ xs, H l = some (.lst xs) ∧ Paired (FlR H) xs fs
theorem FlR.same {H H' : Hp} (s : Same H H') {x : V} {f : Flt} (h : FlR H x f) : FlR H' x f := let ⟨t, e, h1⟩ := h; ⟨t, e, s _ _ h1⟩
theorem FlL.same {H H' : Hp} (s : Same H H') {l : Addr} {fs : List Flt} (h : FlL H l fs) : FlL H' l fs := let ⟨xs, e, h1⟩ := h; ⟨xs, s _ _ e, zN h1 fun _ _ r => r.same s⟩
end K40
set_option maxHeartbeats 4000000
namespace K40
open PySem L2
seal PE PT PW PA PS PSs PG PGs PI PO PSet OpR UnR CallR TruR IxR SlR PC PPs
local macro_rules | `(tactic| walk_at "rd1") => `(tactic| first
 | (refine And.intro rfl ?_)
 | (refine And.intro (by assumption) ?_)
 | (refine And.intro (fun _ e => e) ?_)
 | (refine And.intro (TyOf.str _) ?_) | (refine And.intro (TyOf.int _) ?_) | (refine And.intro (TyOf.bl _) ?_) | (refine And.intro TyOf.non ?_)
 | (refine iteT ?_) | (refine iteF ?_)
 | (apply Exists.intro))
local macro_rules | `(tactic| walk_at "rd") => `(tactic| repeat (walk_at "rd1"))
theorem yL {H : Hp} {x dx : Addr} (nx : H x = none) (nd : H dx = none) (o : HO) : Same H (upd (upd H dx (.own x)) x o) := fun b u e => by
 rw [zK (zI e nx), zK (zI e nd)]; exact e
theorem p40 : (0 : Int) < 10 ^ (40 : Int).toNat := by decide
theorem p18 : (0 : Int) < 10 ^ (18 : Int).toNat := by decide
abbrev zZ : Str := Str.ofString "zz"
abbrev zE : Str := Str.ofString "end"
def rowF (p : Int) (s : Nat) (c : Int) : Option At × List Flt × List Flt :=
 if c % 5 = 2 then (some (.is zZ true), [(.un, zZ)], []) else if c % 5 = 3 then (some (.cmp (nmF p 0) (c % 10 ^ (18 : Int).toNat)), [(.wr, nmF p 0)], [])
 else if c % 5 = 4 then (some (.is (nmF p (3 + s)) false), [], [(.re, nmF p (3 + s))]) else (none, [], [])
def wayF (p : Int) (s : Nat) (c : Int) : Wy × List Flt × List Flt :=
 if c % 6 = 1 then ((nmF p (20 + s), none), [(.nw, nmF p (20 + s))], []) else if c % 6 = 2 then ((zE, some (.is zZ false)), [(.un, zZ)], [])
 else if c % 6 = 3 then ((nmF p (20 + s), some (.is zZ false)), [(.nw, nmF p (20 + s))], []) else if c % 6 = 4 ∧ s < 2 then ((zE, some (.is (nmF p 2) false)), [], [(.re, nmF p 2)])
 else ((zE, some (.is (nmF p 0) true)), [], [])
def sumF (p : Int) (c : Int) : List Tot × List Flt × List Flt :=
 if c % 4 = 1 then ([(nmF p 10, [(2, some (nmF p 11))]), (nmF p 11, [(3, some (nmF p 10))])], [], [(.rg, Str.ofString "")])
 else if c % 4 = 2 then ([(nmF p 10, [(2, some (nmF p 11))]), (nmF p 11, [(3, some zZ)])], [(.un, zZ)], [])
 else if c % 4 = 3 then ([(nmF p 10, [(2, some (nmF p 11))]), (nmF p 11, [(1, some (nmF p 0)), (3, some (nmF p 10)), (2, some zZ)])], [(.un, zZ)], [(.rg, Str.ofString "")])
 else ([(nmF p 10, [(2, some (nmF p 11))]), (nmF p 11, [(3, some (nmF p 0))])], [], [])
def spRow (A : Adr) (K : W.Frag) : Sp := fun vs H Q _ => ∃ (a : Addr) (ns : List Int) (s : Nat) (c : Int), vs = [.ref a, .int s, .int c] ∧ SqL K H a (ns.map V.int) ∧ ns.length ≤ 1000 ∧ Ns ns ∧ s < 3 ∧
 ∀ t sv l1 l2 H', Same H H' → H l1 = none → H l2 = none → H' t = some (.tup [sv, .ref l1, .ref l2]) → SyR A H' sv (rowF (cellF ns 0) s c).1 → FlL H' l1 (rowF (cellF ns 0) s c).2.1 → FlL H' l2 (rowF (cellF ns 0) s c).2.2 → Q (.ref t) H'
def spWay (A : Adr) (K : W.Frag) : Sp := fun vs H Q _ => ∃ (a : Addr) (ns : List Int) (s : Nat) (c : Int), vs = [.ref a, .int s, .int c] ∧ SqL K H a (ns.map V.int) ∧ ns.length ≤ 1000 ∧ Ns ns ∧ s < 3 ∧
 ∀ t x l1 l2 H', Same H H' → H l1 = none → H l2 = none → H' t = some (.tup [x, .ref l1, .ref l2]) → WyR A H' x (wayF (cellF ns 0) s c).1 → FlL H' l1 (wayF (cellF ns 0) s c).2.1 → FlL H' l2 (wayF (cellF ns 0) s c).2.2 → Q (.ref t) H'
def spSum (K : W.Frag) : Sp := fun vs H Q _ => ∃ (a : Addr) (ns : List Int) (c : Int), vs = [.ref a, .int c] ∧ SqL K H a (ns.map V.int) ∧ ns.length ≤ 1000 ∧ Ns ns ∧
 ∀ t l0 l1 l2 H', Same H H' → H' t = some (.tup [.ref l0, .ref l1, .ref l2]) → TsR H' l0 (sumF (cellF ns 0) c).1 → FlL H' l1 (sumF (cellF ns 0) c).2.1 → FlL H' l2 (sumF (cellF ns 0) c).2.2 → Q (.ref t) H'
theorem fl0 {H : Hp} {l : Addr} (h : H l = some (.lst [])) : FlL H l [] := ⟨[], h, .nil⟩
theorem fl1 {H : Hp} {l t : Addr} {f : Flt} (h : H l = some (.lst [.ref t])) (h2 : H t = some (.tup [.str (fw f.1), .str f.2])) : FlL H l [f] := ⟨_, h, .cons ⟨t, rfl, h2⟩ .nil⟩
section
variable {P : Program} {w : World} {K : W.Frag} {mg : Str → Option Value} {base : Heap} {A : Adr}
theorem ok_law_row (T : Txt K mg A) : FnOk P w K mg base CX0 3 A.f_law_row A.d_law_row ["_law_script", "_law_s", "_law_cell_here"] (spRow A K) := by
 have G_law_name := ok_law_name (P := P) (w := w) (base := base) T
 have G_c_Is___init := ok_is_init (P := P) (w := w) (base := base) T
 have G_c_Compare___init := ok_cmp_init (P := P) (w := w) (base := base) T
 refine T.F_law_row.ok sc_law_row (fun vs H Q E h => ?_) (fun cdv A0 outer s H vs Q E hr h => ?_)
 · obtain ⟨a, ns, s, c, rfl, _⟩ := h
   rfl
 obtain ⟨a, ns, k, c, rfl, hS, hl, hb, hk, q⟩ := h
 refine ⟨_, (zF (zX (i := 3) sc_law_row.nd rfl (by first | exact Or.inl rfl | exact Or.inr rfl) (zV G_law_name (hr.mono (by first | decide | omega)) rfl T.m_law_name T.k_law_name T.b_law_name .nil yB (zA (pv 0) (zA (zU xR zJ (pv 1)) zC))))
     (zF (yN (yC op_eq (zU yU (pv 2) zJ) zJ (yJ _)) (zH (zY (zM (zA (yZ T.mk_Is G_c_Is___init (hr.mono (by first | decide | omega)) rfl T.m_Is T.bd_c_Is___init T.dv_c_Is___init yB (zA zP (zA zP zC))) (zA (zQ (zA (zM (zA zP (zA zP zC))) zC)) (zA (zQ zC) zC)))))) zW)
     (zF (yN (yC op_eq (zU yU (pv 2) zJ) zJ (yJ _)) (zH (zY (zM (zA (yZ T.mk_Compare G_c_Compare___init (hr.mono (by first | decide | omega)) rfl T.m_Compare T.b_c_Compare___init .nil yB (zA (zV G_law_name (hr.mono (by first | decide | omega)) rfl T.m_law_name T.k_law_name T.b_law_name .nil yB (zA (pv 0) (zA zJ zC))) (zA zP (zA (zU yU (pv 2) (zU op_pow zJ zJ)) zC)))) (zA (zQ (zA (zM (zA zP (zA (zV G_law_name (hr.mono (by first | decide | omega)) rfl T.m_law_name T.k_law_name T.b_law_name .nil yB (zA (pv 0) (zA zJ zC))) zC))) zC)) (zA (zQ zC) zC)))))) zW)
     (zF (yN (yC op_eq (zU yU (pv 2) zJ) zJ (yJ _)) (zH (zY (zM (zA (yZ T.mk_Is G_c_Is___init (hr.mono (by first | decide | omega)) rfl T.m_Is T.bd_c_Is___init T.dv_c_Is___init yB (zA (pv 3) (zA zP zC))) (zA (zQ zC) (zA (zQ (zA (zM (zA zP (zA (pv 3) zC))) zC)) zC)))))) zW)
     (zH (zY (zM (zA pe_non (zA (zQ zC) (zA (zQ zC) zC)))))))))), ?_⟩
 refine ⟨_, rfl, _, rfl, _, _, rfl, rfl, a, ns, 3 + k, (by dsimp only; rw [show ((3 : Int) + (k : Nat)) = ((3 + k : Nat) : Int) by omega]; rfl), hS, (by omega), hl, hb, ?_⟩
 dsimp only [gName, List.set_cons_succ, List.set_cons_zero]
 generalize hp : cellF ns 0 = p at q ⊢
 refine ⟨_, rfl, _, _, rfl, rfl, (by show (0 : Int) < 5; decide), rfl, _, rfl, ite2 (fun e => ?_) (fun e => ?_)⟩
 · have e : c % 5 = 2 := V.int.inj (of_decide_eq_true e)
   unfold rowF at q
   rw [if_pos e] at q
   refine fun x dx nx nd ne => ⟨x, dx, _, _, _, rfl, zB, rfl, ?_⟩
   rw [yO]
   have s1 := yL nx nd (oIs A dx (.str zZ) (.str (wd true)) .non)
   have hx : (upd (upd H dx (.own x)) x (oIs A dx (.str zZ) (.str (wd true)) .non)) x = _ := zB
   refine ⟨(by show 2 ≤ sizeLine; decide), fun t1 ht1 => ⟨(by show 1 ≤ sizeLine; decide), fun l1 hl1 => ⟨(by show 0 ≤ sizeLine; decide), fun l2 hl2 => ⟨(by show 3 ≤ sizeLine; decide), fun t ht => ?_⟩⟩⟩⟩
   have s2 := zD ht1 (.tup [.str (fw .un), .str zZ])
   have s3 := zD hl1 (.lst [.ref t1])
   have s4 := zD hl2 (.lst [])
   have s5 := zD ht (.tup [.ref x, .ref l1, .ref l2])
   exact q t _ l1 l2 _ (s1.trans (s2.trans (s3.trans (s4.trans s5)))) (yF (s1.trans s2) hl1) (yF (s1.trans (s2.trans s3)) hl2) zB ⟨x, rfl, dx, (s2.trans (s3.trans (s4.trans s5))) _ _ hx⟩ (fl1 ((s4.trans s5) _ _ zB) ((s3.trans (s4.trans s5)) _ _ zB)) (fl0 (s5 _ _ zB))
 have e : ¬ c % 5 = 2 := fun z => e (decide_eq_true (by show V.int (c % 5) = _; rw [z]))
 refine ⟨_, rfl, _, _, rfl, rfl, (by show (0 : Int) < 5; decide), rfl, _, rfl, ite2 (fun f => ?_) (fun f => ?_)⟩
 · have f : c % 5 = 3 := V.int.inj (of_decide_eq_true f)
   unfold rowF at q
   rw [if_neg e, if_pos f] at q
   refine ⟨_, rfl, a, ns, 0, rfl, hS, by decide, hl, hb, ?_⟩
   refine ⟨_, rfl, _, _, rfl, rfl, ⟨by decide, by decide, by decide⟩, _, _, rfl, rfl, p18, ?_⟩
   rw [hp]
   refine fun x dx nx nd ne => ⟨x, dx, _, _, _, rfl, zB, rfl, ?_⟩
   rw [yO]
   have s1 := yL nx nd (oCm A dx (.str (nmF p 0)) (.str zG) (.int (c % 10 ^ (18 : Int).toNat)))
   have hx : (upd (upd H dx (.own x)) x (oCm A dx (.str (nmF p 0)) (.str zG) (.int (c % 10 ^ (18 : Int).toNat)))) x = _ := zB
   generalize upd (upd H dx (.own x)) x (oCm A dx (.str (nmF p 0)) (.str zG) (.int (c % 10 ^ (18 : Int).toNat))) = H1 at s1 hx
   refine ⟨_, rfl, a, ns, 0, rfl, s1.seq hS, by decide, hl, hb, ?_⟩
   rw [hp]
   refine ⟨(by show 2 ≤ sizeLine; decide), fun t1 ht1 => ⟨(by show 1 ≤ sizeLine; decide), fun l1 hl1 => ⟨(by show 0 ≤ sizeLine; decide), fun l2 hl2 => ⟨(by show 3 ≤ sizeLine; decide), fun t ht => ?_⟩⟩⟩⟩
   have s2 := zD ht1 (.tup [.str (fw .wr), .str (nmF p 0)])
   have s3 := zD hl1 (.lst [.ref t1])
   have s4 := zD hl2 (.lst [])
   have s5 := zD ht (.tup [.ref x, .ref l1, .ref l2])
   exact q t _ l1 l2 _ (s1.trans (s2.trans (s3.trans (s4.trans s5)))) (yF (s1.trans s2) hl1) (yF (s1.trans (s2.trans s3)) hl2) zB ⟨x, rfl, dx, (s2.trans (s3.trans (s4.trans s5))) _ _ hx⟩ (fl1 ((s4.trans s5) _ _ zB) ((s3.trans (s4.trans s5)) _ _ zB)) (fl0 (s5 _ _ zB))
 have f : ¬ c % 5 = 3 := fun z => f (decide_eq_true (by show V.int (c % 5) = _; rw [z]))
 refine ⟨_, rfl, _, _, rfl, rfl, (by show (0 : Int) < 5; decide), rfl, _, rfl, ite2 (fun g => ?_) (fun g => ?_)⟩
 · have g : c % 5 = 4 := V.int.inj (of_decide_eq_true g)
   unfold rowF at q
   rw [if_neg e, if_neg f, if_pos g] at q
   refine ⟨_, rfl, fun x dx nx nd ne => ⟨x, dx, _, _, _, rfl, zB, rfl, ?_⟩⟩
   rw [yO]
   have s1 := yL nx nd (oIs A dx (.str (nmF p (3 + k))) (.str (wd false)) .non)
   have hx : (upd (upd H dx (.own x)) x (oIs A dx (.str (nmF p (3 + k))) (.str (wd false)) .non)) x = _ := zB
   refine ⟨(by show 0 ≤ sizeLine; decide), fun l1 hl1 => ⟨_, rfl, (by show 2 ≤ sizeLine; decide), fun t1 ht1 => ⟨(by show 1 ≤ sizeLine; decide), fun l2 hl2 => ⟨(by show 3 ≤ sizeLine; decide), fun t ht => ?_⟩⟩⟩⟩
   have s2 := zD hl1 (.lst [])
   have s3 := zD ht1 (.tup [.str (fw .re), .str (nmF p (3 + k))])
   have s4 := zD hl2 (.lst [.ref t1])
   have s5 := zD ht (.tup [.ref x, .ref l1, .ref l2])
   exact q t _ l1 l2 _ (s1.trans (s2.trans (s3.trans (s4.trans s5)))) (yF (s1) hl1) (yF (s1.trans (s2.trans s3)) hl2) zB ⟨x, rfl, dx, (s2.trans (s3.trans (s4.trans s5))) _ _ hx⟩ (fl0 ((s3.trans (s4.trans s5)) _ _ zB)) (fl1 (s5 _ _ zB) ((s4.trans s5) _ _ zB))
 have g : ¬ c % 5 = 4 := fun z => g (decide_eq_true (by show V.int (c % 5) = _; rw [z]))
 unfold rowF at q
 rw [if_neg e, if_neg f, if_neg g] at q
 refine ⟨(by show 0 ≤ sizeLine; decide), fun l1 hl1 => ⟨(by show 0 ≤ sizeLine; decide), fun l2 hl2 => ⟨(by show 3 ≤ sizeLine; decide), fun t ht => ?_⟩⟩⟩
 have s2 := zD hl1 (.lst [])
 have s4 := zD hl2 (.lst [])
 have s5 := zD ht (.tup [.non, .ref l1, .ref l2])
 exact q t _ l1 l2 _ (s2.trans (s4.trans s5)) (yF (Same.refl _) hl1) (yF (s2) hl2) zB rfl (fl0 ((s4.trans s5) _ _ zB)) (fl0 (s5 _ _ zB))
theorem ok_law_way (T : Txt K mg A) : FnOk P w K mg base CX0 3 A.f_law_way A.d_law_way ["_law_script", "_law_s", "_law_cell_here"] (spWay A K) := by
 have G_law_name := ok_law_name (P := P) (w := w) (base := base) T
 have G_c_Is___init := ok_is_init (P := P) (w := w) (base := base) T
 refine T.F_law_way.ok sc_law_way (fun vs H Q E h => ?_) (fun cdv A0 outer s H vs Q E hr h => ?_)
 · obtain ⟨a, ns, s, c, rfl, _⟩ := h
   rfl
 obtain ⟨a, ns, k, c, rfl, hS, hl, hb, hk, q⟩ := h
 refine ⟨_, (zF (zX (i := 3) sc_law_way.nd rfl (by first | exact Or.inl rfl | exact Or.inr rfl) (zV G_law_name (hr.mono (by first | decide | omega)) rfl T.m_law_name T.k_law_name T.b_law_name .nil yB (zA (pv 0) (zA (zU xR zJ (pv 1)) zC))))
     (zF (zX (i := 4) sc_law_way.nd rfl (by first | exact Or.inl rfl | exact Or.inr rfl) (zV G_law_name (hr.mono (by first | decide | omega)) rfl T.m_law_name T.k_law_name T.b_law_name .nil yB (zA (pv 0) (zA zJ zC))))
     (zF (yN (yC op_eq (zU yU (pv 2) zJ) zJ (yJ _)) (zH (zY (zM (zA (zM (zA (pv 3) (zA pe_non zC))) (zA (zQ (zA (zM (zA zP (zA (pv 3) zC))) zC)) (zA (zQ zC) zC)))))) zW)
     (zF (yN (yC op_eq (zU yU (pv 2) zJ) zJ (yJ _)) (zH (zY (zM (zA (zM (zA zP (zA (yZ T.mk_Is G_c_Is___init (hr.mono (by first | decide | omega)) rfl T.m_Is T.bd_c_Is___init T.dv_c_Is___init yB (zA zP (zA zP zC))) zC))) (zA (zQ (zA (zM (zA zP (zA zP zC))) zC)) (zA (zQ zC) zC)))))) zW)
     (zF (yN (yC op_eq (zU yU (pv 2) zJ) zJ (yJ _)) (zH (zY (zM (zA (zM (zA (pv 3) (zA (yZ T.mk_Is G_c_Is___init (hr.mono (by first | decide | omega)) rfl T.m_Is T.bd_c_Is___init T.dv_c_Is___init yB (zA zP (zA zP zC))) zC))) (zA (zQ (zA (zM (zA zP (zA (pv 3) zC))) zC)) (zA (zQ zC) zC)))))) zW)
     (zF (yN (PW.pt (pw_and (yC op_eq (zU yU (pv 2) zJ) zJ (yJ _)) (pw_and1 (yC op_lt (pv 1) zJ (yJ _))))) (zH (zY (zM (zA (zM (zA zP (zA (yZ T.mk_Is G_c_Is___init (hr.mono (by first | decide | omega)) rfl T.m_Is T.bd_c_Is___init T.dv_c_Is___init yB (zA (pv 4) (zA zP zC))) zC))) (zA (zQ zC) (zA (zQ (zA (zM (zA zP (zA (pv 4) zC))) zC)) zC)))))) zW)
     (zH (zY (zM (zA (zM (zA zP (zA (yZ T.mk_Is G_c_Is___init (hr.mono (by first | decide | omega)) rfl T.m_Is T.bd_c_Is___init T.dv_c_Is___init yB (zA (zV G_law_name (hr.mono (by first | decide | omega)) rfl T.m_law_name T.k_law_name T.b_law_name .nil yB (zA (pv 0) (zA zJ zC))) (zA zP zC))) zC))) (zA (zQ zC) (zA (zQ zC) zC)))))))))))), ?_⟩
 refine ⟨_, rfl, _, rfl, _, _, rfl, rfl, a, ns, 20 + k, (by dsimp only; rw [show ((20 : Int) + (k : Nat)) = ((20 + k : Nat) : Int) by omega]; rfl), hS, (by omega), hl, hb, ?_⟩
 refine ⟨_, rfl, a, ns, 2, rfl, hS, by decide, hl, hb, ?_⟩
 dsimp only [gName, List.set_cons_succ, List.set_cons_zero]
 generalize hp : cellF ns 0 = p at q ⊢
 refine ⟨_, rfl, _, _, rfl, rfl, (by show (0 : Int) < 6; decide), rfl, _, rfl, ite2 (fun e => ?_) (fun e => ?_)⟩
 · have e : c % 6 = 1 := V.int.inj (of_decide_eq_true e)
   unfold wayF at q
   rw [if_pos e] at q
   refine ⟨_, rfl, (by show 2 ≤ sizeLine; decide), fun t0 ht0 => ⟨_, rfl, (by show 2 ≤ sizeLine; decide), fun t1 ht1 => ⟨(by show 1 ≤ sizeLine; decide), fun l1 hl1 => ⟨(by show 0 ≤ sizeLine; decide), fun l2 hl2 => ⟨(by show 3 ≤ sizeLine; decide), fun t ht => ?_⟩⟩⟩⟩⟩
   have s1 := zD ht0 (.tup [.str (nmF p (20 + k)), .non])
   have s2 := zD ht1 (.tup [.str (fw .nw), .str (nmF p (20 + k))])
   have s3 := zD hl1 (.lst [.ref t1])
   have s4 := zD hl2 (.lst [])
   have s5 := zD ht (.tup [.ref t0, .ref l1, .ref l2])
   exact q t _ l1 l2 _ (s1.trans (s2.trans (s3.trans (s4.trans s5)))) (yF (s1.trans s2) hl1) (yF (s1.trans (s2.trans s3)) hl2) zB ⟨t0, _, rfl, (s2.trans (s3.trans (s4.trans s5))) _ _ zB, rfl⟩ (fl1 ((s4.trans s5) _ _ zB) ((s3.trans (s4.trans s5)) _ _ zB)) (fl0 (s5 _ _ zB))
 have e : ¬ c % 6 = 1 := fun z => e (decide_eq_true (by show V.int (c % 6) = _; rw [z]))
 refine ⟨_, rfl, _, _, rfl, rfl, (by show (0 : Int) < 6; decide), rfl, _, rfl, ite2 (fun f => ?_) (fun f => ?_)⟩
 · have f : c % 6 = 2 := V.int.inj (of_decide_eq_true f)
   unfold wayF at q
   rw [if_neg e, if_pos f] at q
   refine fun x dx nx nd ne => ⟨x, dx, _, _, _, rfl, zB, rfl, ?_⟩
   rw [yO]
   have s0 := yL nx nd (oIs A dx (.str zZ) (.str (wd false)) .non)
   have hx : (upd (upd H dx (.own x)) x (oIs A dx (.str zZ) (.str (wd false)) .non)) x = _ := zB
   refine ⟨(by show 2 ≤ sizeLine; decide), fun t0 ht0 => ⟨(by show 2 ≤ sizeLine; decide), fun t1 ht1 => ⟨(by show 1 ≤ sizeLine; decide), fun l1 hl1 => ⟨(by show 0 ≤ sizeLine; decide), fun l2 hl2 => ⟨(by show 3 ≤ sizeLine; decide), fun t ht => ?_⟩⟩⟩⟩⟩
   have s1 := zD ht0 (.tup [.str zE, .ref x])
   have s2 := zD ht1 (.tup [.str (fw .un), .str zZ])
   have s3 := zD hl1 (.lst [.ref t1])
   have s4 := zD hl2 (.lst [])
   have s5 := zD ht (.tup [.ref t0, .ref l1, .ref l2])
   exact q t _ l1 l2 _ (s0.trans (s1.trans (s2.trans (s3.trans (s4.trans s5))))) (yF (s0.trans (s1.trans s2)) hl1) (yF (s0.trans (s1.trans (s2.trans s3))) hl2) zB ⟨t0, _, rfl, (s2.trans (s3.trans (s4.trans s5))) _ _ zB, x, rfl, dx, (s1.trans (s2.trans (s3.trans (s4.trans s5)))) _ _ hx⟩ (fl1 ((s4.trans s5) _ _ zB) ((s3.trans (s4.trans s5)) _ _ zB)) (fl0 (s5 _ _ zB))
 have f : ¬ c % 6 = 2 := fun z => f (decide_eq_true (by show V.int (c % 6) = _; rw [z]))
 refine ⟨_, rfl, _, _, rfl, rfl, (by show (0 : Int) < 6; decide), rfl, _, rfl, ite2 (fun g => ?_) (fun g => ?_)⟩
 · have g : c % 6 = 3 := V.int.inj (of_decide_eq_true g)
   unfold wayF at q
   rw [if_neg e, if_neg f, if_pos g] at q
   refine ⟨_, rfl, fun x dx nx nd ne => ⟨x, dx, _, _, _, rfl, zB, rfl, ?_⟩⟩
   rw [yO]
   have s0 := yL nx nd (oIs A dx (.str zZ) (.str (wd false)) .non)
   have hx : (upd (upd H dx (.own x)) x (oIs A dx (.str zZ) (.str (wd false)) .non)) x = _ := zB
   refine ⟨(by show 2 ≤ sizeLine; decide), fun t0 ht0 => ⟨_, rfl, (by show 2 ≤ sizeLine; decide), fun t1 ht1 => ⟨(by show 1 ≤ sizeLine; decide), fun l1 hl1 => ⟨(by show 0 ≤ sizeLine; decide), fun l2 hl2 => ⟨(by show 3 ≤ sizeLine; decide), fun t ht => ?_⟩⟩⟩⟩⟩
   have s1 := zD ht0 (.tup [.str (nmF p (20 + k)), .ref x])
   have s2 := zD ht1 (.tup [.str (fw .nw), .str (nmF p (20 + k))])
   have s3 := zD hl1 (.lst [.ref t1])
   have s4 := zD hl2 (.lst [])
   have s5 := zD ht (.tup [.ref t0, .ref l1, .ref l2])
   exact q t _ l1 l2 _ (s0.trans (s1.trans (s2.trans (s3.trans (s4.trans s5))))) (yF (s0.trans (s1.trans s2)) hl1) (yF (s0.trans (s1.trans (s2.trans s3))) hl2) zB ⟨t0, _, rfl, (s2.trans (s3.trans (s4.trans s5))) _ _ zB, x, rfl, dx, (s1.trans (s2.trans (s3.trans (s4.trans s5)))) _ _ hx⟩ (fl1 ((s4.trans s5) _ _ zB) ((s3.trans (s4.trans s5)) _ _ zB)) (fl0 (s5 _ _ zB))
 have g : ¬ c % 6 = 3 := fun z => g (decide_eq_true (by show V.int (c % 6) = _; rw [z]))
 dsimp only [tNext]
 refine seq_mid (fun σ' G => H = G ∧ σ' = [some (.ref a), some (.int k), some (.int c), some (.str (nmF p (20 + k))), some (.str (nmF p 2))] ∧ ¬ (c % 6 = 4 ∧ k < 2)) (fun σ' G hR => ?_) (fun hk' => ?_)
 · obtain ⟨rfl, rfl, n⟩ := hR
   unfold wayF at q
   rw [if_neg e, if_neg f, if_neg g, if_neg n] at q
   refine ⟨_, rfl, a, ns, 0, rfl, hS, by decide, hl, hb, ?_⟩
   rw [hp]
   refine fun x dx nx nd ne => ⟨x, dx, _, _, _, rfl, zB, rfl, ?_⟩
   rw [yO]
   have s0 := yL nx nd (oIs A dx (.str (nmF p 0)) (.str (wd true)) .non)
   have hx : (upd (upd H dx (.own x)) x (oIs A dx (.str (nmF p 0)) (.str (wd true)) .non)) x = _ := zB
   refine ⟨(by show 2 ≤ sizeLine; decide), fun t0 ht0 => ⟨(by show 0 ≤ sizeLine; decide), fun l1 hl1 => ⟨(by show 0 ≤ sizeLine; decide), fun l2 hl2 => ⟨(by show 3 ≤ sizeLine; decide), fun t ht => ?_⟩⟩⟩⟩
   have s1 := zD ht0 (.tup [.str zE, .ref x])
   have s3 := zD hl1 (.lst [])
   have s4 := zD hl2 (.lst [])
   have s5 := zD ht (.tup [.ref t0, .ref l1, .ref l2])
   exact q t _ l1 l2 _ (s0.trans (s1.trans (s3.trans (s4.trans s5)))) (yF (s0.trans s1) hl1) (yF (s0.trans (s1.trans s3)) hl2) zB ⟨t0, _, rfl, (s3.trans (s4.trans s5)) _ _ zB, x, rfl, dx, (s1.trans (s3.trans (s4.trans s5))) _ _ hx⟩ (fl0 ((s4.trans s5) _ _ zB)) (fl0 (s5 _ _ zB))
 refine ⟨_, rfl, _, _, rfl, rfl, (by show (0 : Int) < 6; decide), rfl, _, rfl, ite2 (fun o => ?_) (fun o => ?_)⟩
 · have o : c % 6 = 4 := V.int.inj (of_decide_eq_true o)
   refine ⟨_, rfl, _, _, rfl, rfl, _, rfl, ite2 (fun r => ?_) (fun r => ?_)⟩
   · have r : k < 2 := by have := of_decide_eq_true r; omega
     unfold wayF at q
     rw [if_neg e, if_neg f, if_neg g, if_pos ⟨o, r⟩] at q
     refine ⟨_, rfl, fun x dx nx nd ne => ⟨x, dx, _, _, _, rfl, zB, rfl, ?_⟩⟩
     rw [yO]
     have s0 := yL nx nd (oIs A dx (.str (nmF p 2)) (.str (wd false)) .non)
     have hx : (upd (upd H dx (.own x)) x (oIs A dx (.str (nmF p 2)) (.str (wd false)) .non)) x = _ := zB
     refine ⟨(by show 2 ≤ sizeLine; decide), fun t0 ht0 => ⟨(by show 0 ≤ sizeLine; decide), fun l1 hl1 => ⟨_, rfl, (by show 2 ≤ sizeLine; decide), fun t1 ht1 => ⟨(by show 1 ≤ sizeLine; decide), fun l2 hl2 => ⟨(by show 3 ≤ sizeLine; decide), fun t ht => ?_⟩⟩⟩⟩⟩
     have s1 := zD ht0 (.tup [.str zE, .ref x])
     have s2 := zD hl1 (.lst [])
     have s3 := zD ht1 (.tup [.str (fw .re), .str (nmF p 2)])
     have s4 := zD hl2 (.lst [.ref t1])
     have s5 := zD ht (.tup [.ref t0, .ref l1, .ref l2])
     exact q t _ l1 l2 _ (s0.trans (s1.trans (s2.trans (s3.trans (s4.trans s5))))) (yF (s0.trans s1) hl1) (yF (s0.trans (s1.trans (s2.trans s3))) hl2) zB ⟨t0, _, rfl, (s2.trans (s3.trans (s4.trans s5))) _ _ zB, x, rfl, dx, (s1.trans (s2.trans (s3.trans (s4.trans s5)))) _ _ hx⟩ (fl0 ((s3.trans (s4.trans s5)) _ _ zB)) (fl1 (s5 _ _ zB) ((s4.trans s5) _ _ zB))
   · exact hk' _ _ ⟨rfl, rfl, fun z => r (decide_eq_true (by have := z.2; show ((k : Nat) : Int) < 2; omega))⟩
 · exact hk' _ _ ⟨rfl, rfl, fun z => o (decide_eq_true (by show V.int (c % 6) = _; rw [z.1]))⟩
end
end K40
set_option maxHeartbeats 4000000
namespace K40
open PySem L2
seal PE PT PW PA PS PSs PG PGs PI PO PSet OpR UnR CallR TruR IxR SlR PC PPs
local macro_rules | `(tactic| walk_at "rd1") => `(tactic| first
 | (refine And.intro rfl ?_)
 | (refine And.intro (by assumption) ?_)
 | (refine And.intro (fun _ e => e) ?_)
 | (refine And.intro (TyOf.str _) ?_) | (refine And.intro (TyOf.int _) ?_) | (refine And.intro (TyOf.bl _) ?_) | (refine And.intro TyOf.non ?_)
 | (refine iteT ?_) | (refine iteF ?_)
 | (apply Exists.intro))
local macro_rules | `(tactic| walk_at "rd") => `(tactic| repeat (walk_at "rd1"))
section
variable {P : Program} {w : World} {K : W.Frag} {mg : Str → Option Value} {base : Heap} {A : Adr}
theorem ok_law_sums (T : Txt K mg A) : FnOk P w K mg base CX0 3 A.f_law_sums A.d_law_sums ["_law_script", "_law_cell_here"] (spSum K) := by
 have G_law_name := ok_law_name (P := P) (w := w) (base := base) T
 refine T.F_law_sums.ok sc_law_sums (fun vs H Q E h => ?_) (fun cdv A0 outer s H vs Q E hr h => ?_)
 · obtain ⟨a, ns, c, rfl, _⟩ := h
   rfl
 obtain ⟨a, ns, c, rfl, hS, hl, hb, q⟩ := h
 refine ⟨_, (zF (zX (i := 2) sc_law_sums.nd rfl (by first | exact Or.inl rfl | exact Or.inr rfl) (zV G_law_name (hr.mono (by first | decide | omega)) rfl T.m_law_name T.k_law_name T.b_law_name .nil yB (zA (pv 0) (zA zJ zC))))
     (zF (zX (i := 3) sc_law_sums.nd rfl (by first | exact Or.inl rfl | exact Or.inr rfl) (zV G_law_name (hr.mono (by first | decide | omega)) rfl T.m_law_name T.k_law_name T.b_law_name .nil yB (zA (pv 0) (zA zJ zC))))
     (zF (zX (i := 4) sc_law_sums.nd rfl (by first | exact Or.inl rfl | exact Or.inr rfl) (zV G_law_name (hr.mono (by first | decide | omega)) rfl T.m_law_name T.k_law_name T.b_law_name .nil yB (zA (pv 0) (zA zJ zC))))
     (zF (yN (yC op_eq (zU yU (pv 1) zJ) zJ (yJ _)) (zH (zY (zM (zA (zQ (zA (zM (zA (pv 2) (zA (zQ (zA (zM (zA zJ (zA (pv 3) zC))) zC)) zC))) (zA (zM (zA (pv 3) (zA (zQ (zA (zM (zA zJ (zA (pv 2) zC))) zC)) zC))) zC))) (zA (zQ zC) (zA (zQ (zA (zM (zA zP (zA zP zC))) zC)) zC)))))) zW)
     (zF (yN (yC op_eq (zU yU (pv 1) zJ) zJ (yJ _)) (zH (zY (zM (zA (zQ (zA (zM (zA (pv 2) (zA (zQ (zA (zM (zA zJ (zA (pv 3) zC))) zC)) zC))) (zA (zM (zA (pv 3) (zA (zQ (zA (zM (zA zJ (zA zP zC))) zC)) zC))) zC))) (zA (zQ (zA (zM (zA zP (zA zP zC))) zC)) (zA (zQ zC) zC)))))) zW)
     (zF (yN (yC op_eq (zU yU (pv 1) zJ) zJ (yJ _)) (zF (zX (i := 5) sc_law_sums.nd rfl (by first | exact Or.inl rfl | exact Or.inr rfl) (zQ (zA (zM (zA zJ (zA (pv 4) zC))) (zA (zM (zA zJ (zA (pv 2) zC))) (zA (zM (zA zJ (zA zP zC))) zC)))))
     (zH (zY (zM (zA (zQ (zA (zM (zA (pv 2) (zA (zQ (zA (zM (zA zJ (zA (pv 3) zC))) zC)) zC))) (zA (zM (zA (pv 3) (zA (pv 5) zC))) zC))) (zA (zQ (zA (zM (zA zP (zA zP zC))) zC)) (zA (zQ (zA (zM (zA zP (zA zP zC))) zC)) zC))))))) zW)
     (zH (zY (zM (zA (zQ (zA (zM (zA (pv 2) (zA (zQ (zA (zM (zA zJ (zA (pv 3) zC))) zC)) zC))) (zA (zM (zA (pv 3) (zA (zQ (zA (zM (zA zJ (zA (pv 4) zC))) zC)) zC))) zC))) (zA (zQ zC) (zA (zQ zC) zC)))))))))))), ?_⟩
 refine ⟨_, rfl, a, ns, 10, rfl, hS, by decide, hl, hb, ?_⟩
 refine ⟨_, rfl, a, ns, 11, rfl, hS, by decide, hl, hb, ?_⟩
 refine ⟨_, rfl, a, ns, 0, rfl, hS, by decide, hl, hb, ?_⟩
 dsimp only [gName, List.set_cons_succ, List.set_cons_zero]
 generalize hp : cellF ns 0 = p at q ⊢
 refine ⟨_, rfl, _, _, rfl, rfl, (by show (0 : Int) < 4; decide), rfl, _, rfl, ite2 (fun e0 => ?_) (fun e0 => ?_)⟩
 · have e0 : c % 4 = 1 := V.int.inj (of_decide_eq_true e0)
   unfold sumF at q
   rw [if_pos e0] at q
   refine ⟨_, rfl, _, rfl, (by show 2 ≤ sizeLine; decide), fun at0 h_at0 => ⟨(by show 1 ≤ sizeLine; decide), fun la h_la => ⟨(by show 2 ≤ sizeLine; decide), fun xa h_xa => ⟨_, rfl, _, rfl, (by show 2 ≤ sizeLine; decide), fun bt0 h_bt0 => ⟨(by show 1 ≤ sizeLine; decide), fun lb h_lb => ⟨(by show 2 ≤ sizeLine; decide), fun xb h_xb => ⟨(by show 2 ≤ sizeLine; decide), fun l0 h_l0 => ⟨(by show 0 ≤ sizeLine; decide), fun l1 h_l1 => ⟨(by show 2 ≤ sizeLine; decide), fun l2t h_l2t => ⟨(by show 1 ≤ sizeLine; decide), fun l2 h_l2 => ⟨(by show 3 ≤ sizeLine; decide), fun t h_t => ?_⟩⟩⟩⟩⟩⟩⟩⟩⟩⟩⟩
   have s_at0 := zD h_at0 (.tup [.int 2, .str (nmF p 11)])
   have s_la := zD h_la (.lst [.ref at0])
   have s_xa := zD h_xa (.tup [.str (nmF p 10), .ref la])
   have s_bt0 := zD h_bt0 (.tup [.int 3, .str (nmF p 10)])
   have s_lb := zD h_lb (.lst [.ref bt0])
   have s_xb := zD h_xb (.tup [.str (nmF p 11), .ref lb])
   have s_l0 := zD h_l0 (.lst [.ref xa, .ref xb])
   have s_l1 := zD h_l1 (.lst [])
   have s_l2t := zD h_l2t (.tup [.str (fw .rg), .str (Str.ofString "")])
   have s_l2 := zD h_l2 (.lst [.ref l2t])
   have s_t := zD h_t (.tup [.ref l0, .ref l1, .ref l2])
   have r_l2 := s_t
   have r_l2t := s_l2.trans r_l2
   have r_l1 := s_l2t.trans r_l2t
   have r_l0 := s_l1.trans r_l1
   have r_xb := s_l0.trans r_l0
   have r_lb := s_xb.trans r_xb
   have r_bt0 := s_lb.trans r_lb
   have r_xa := s_bt0.trans r_bt0
   have r_la := s_xa.trans r_xa
   have r_at0 := s_la.trans r_la
   exact q t l0 l1 l2 _ (s_at0.trans r_at0) zB ⟨_, (r_l0 _ _ zB), .cons ⟨xa, la, rfl, (r_xa _ _ zB), _, (r_la _ _ zB), (.cons ⟨at0, rfl, (r_at0 _ _ zB)⟩ .nil)⟩ (.cons ⟨xb, lb, rfl, (r_xb _ _ zB), _, (r_lb _ _ zB), (.cons ⟨bt0, rfl, (r_bt0 _ _ zB)⟩ .nil)⟩ .nil)⟩ (fl0 (r_l1 _ _ zB)) (fl1 (r_l2 _ _ zB) (r_l2t _ _ zB))
 have e0 : ¬ c % 4 = 1 := fun z => e0 (decide_eq_true (by show V.int (c % 4) = _; rw [z]))
 refine ⟨_, rfl, _, _, rfl, rfl, (by show (0 : Int) < 4; decide), rfl, _, rfl, ite2 (fun e1 => ?_) (fun e1 => ?_)⟩
 · have e1 : c % 4 = 2 := V.int.inj (of_decide_eq_true e1)
   unfold sumF at q
   rw [if_neg e0, if_pos e1] at q
   refine ⟨_, rfl, _, rfl, (by show 2 ≤ sizeLine; decide), fun at0 h_at0 => ⟨(by show 1 ≤ sizeLine; decide), fun la h_la => ⟨(by show 2 ≤ sizeLine; decide), fun xa h_xa => ⟨_, rfl, (by show 2 ≤ sizeLine; decide), fun bt0 h_bt0 => ⟨(by show 1 ≤ sizeLine; decide), fun lb h_lb => ⟨(by show 2 ≤ sizeLine; decide), fun xb h_xb => ⟨(by show 2 ≤ sizeLine; decide), fun l0 h_l0 => ⟨(by show 2 ≤ sizeLine; decide), fun l1t h_l1t => ⟨(by show 1 ≤ sizeLine; decide), fun l1 h_l1 => ⟨(by show 0 ≤ sizeLine; decide), fun l2 h_l2 => ⟨(by show 3 ≤ sizeLine; decide), fun t h_t => ?_⟩⟩⟩⟩⟩⟩⟩⟩⟩⟩⟩
   have s_at0 := zD h_at0 (.tup [.int 2, .str (nmF p 11)])
   have s_la := zD h_la (.lst [.ref at0])
   have s_xa := zD h_xa (.tup [.str (nmF p 10), .ref la])
   have s_bt0 := zD h_bt0 (.tup [.int 3, .str zZ])
   have s_lb := zD h_lb (.lst [.ref bt0])
   have s_xb := zD h_xb (.tup [.str (nmF p 11), .ref lb])
   have s_l0 := zD h_l0 (.lst [.ref xa, .ref xb])
   have s_l1t := zD h_l1t (.tup [.str (fw .un), .str zZ])
   have s_l1 := zD h_l1 (.lst [.ref l1t])
   have s_l2 := zD h_l2 (.lst [])
   have s_t := zD h_t (.tup [.ref l0, .ref l1, .ref l2])
   have r_l2 := s_t
   have r_l1 := s_l2.trans r_l2
   have r_l1t := s_l1.trans r_l1
   have r_l0 := s_l1t.trans r_l1t
   have r_xb := s_l0.trans r_l0
   have r_lb := s_xb.trans r_xb
   have r_bt0 := s_lb.trans r_lb
   have r_xa := s_bt0.trans r_bt0
   have r_la := s_xa.trans r_xa
   have r_at0 := s_la.trans r_la
   exact q t l0 l1 l2 _ (s_at0.trans r_at0) zB ⟨_, (r_l0 _ _ zB), .cons ⟨xa, la, rfl, (r_xa _ _ zB), _, (r_la _ _ zB), (.cons ⟨at0, rfl, (r_at0 _ _ zB)⟩ .nil)⟩ (.cons ⟨xb, lb, rfl, (r_xb _ _ zB), _, (r_lb _ _ zB), (.cons ⟨bt0, rfl, (r_bt0 _ _ zB)⟩ .nil)⟩ .nil)⟩ (fl1 (r_l1 _ _ zB) (r_l1t _ _ zB)) (fl0 (r_l2 _ _ zB))
 have e1 : ¬ c % 4 = 2 := fun z => e1 (decide_eq_true (by show V.int (c % 4) = _; rw [z]))
 refine ⟨_, rfl, _, _, rfl, rfl, (by show (0 : Int) < 4; decide), rfl, _, rfl, ite2 (fun e2 => ?_) (fun e2 => ?_)⟩
 · have e2 : c % 4 = 3 := V.int.inj (of_decide_eq_true e2)
   unfold sumF at q
   rw [if_neg e0, if_neg e1, if_pos e2] at q
   refine ⟨_, rfl, (by show 2 ≤ sizeLine; decide), fun bt0 h_bt0 => ⟨_, rfl, (by show 2 ≤ sizeLine; decide), fun bt1 h_bt1 => ⟨(by show 2 ≤ sizeLine; decide), fun bt2 h_bt2 => ⟨(by show 3 ≤ sizeLine; decide), fun lb h_lb => ?_⟩⟩⟩⟩
   dsimp only [gName, List.set_cons_succ, List.set_cons_zero]
   refine ⟨_, rfl, _, rfl, (by show 2 ≤ sizeLine; decide), fun at0 h_at0 => ⟨(by show 1 ≤ sizeLine; decide), fun la h_la => ⟨(by show 2 ≤ sizeLine; decide), fun xa h_xa => ⟨_, rfl, _, rfl, (by show 2 ≤ sizeLine; decide), fun xb h_xb => ⟨(by show 2 ≤ sizeLine; decide), fun l0 h_l0 => ⟨(by show 2 ≤ sizeLine; decide), fun l1t h_l1t => ⟨(by show 1 ≤ sizeLine; decide), fun l1 h_l1 => ⟨(by show 2 ≤ sizeLine; decide), fun l2t h_l2t => ⟨(by show 1 ≤ sizeLine; decide), fun l2 h_l2 => ⟨(by show 3 ≤ sizeLine; decide), fun t h_t => ?_⟩⟩⟩⟩⟩⟩⟩⟩⟩⟩
   have s_bt0 := zD h_bt0 (.tup [.int 1, .str (nmF p 0)])
   have s_bt1 := zD h_bt1 (.tup [.int 3, .str (nmF p 10)])
   have s_bt2 := zD h_bt2 (.tup [.int 2, .str zZ])
   have s_lb := zD h_lb (.lst [.ref bt0, .ref bt1, .ref bt2])
   have s_at0 := zD h_at0 (.tup [.int 2, .str (nmF p 11)])
   have s_la := zD h_la (.lst [.ref at0])
   have s_xa := zD h_xa (.tup [.str (nmF p 10), .ref la])
   have s_xb := zD h_xb (.tup [.str (nmF p 11), .ref lb])
   have s_l0 := zD h_l0 (.lst [.ref xa, .ref xb])
   have s_l1t := zD h_l1t (.tup [.str (fw .un), .str zZ])
   have s_l1 := zD h_l1 (.lst [.ref l1t])
   have s_l2t := zD h_l2t (.tup [.str (fw .rg), .str (Str.ofString "")])
   have s_l2 := zD h_l2 (.lst [.ref l2t])
   have s_t := zD h_t (.tup [.ref l0, .ref l1, .ref l2])
   have r_l2 := s_t
   have r_l2t := s_l2.trans r_l2
   have r_l1 := s_l2t.trans r_l2t
   have r_l1t := s_l1.trans r_l1
   have r_l0 := s_l1t.trans r_l1t
   have r_xb := s_l0.trans r_l0
   have r_xa := s_xb.trans r_xb
   have r_la := s_xa.trans r_xa
   have r_at0 := s_la.trans r_la
   have r_lb := s_at0.trans r_at0
   have r_bt2 := s_lb.trans r_lb
   have r_bt1 := s_bt2.trans r_bt2
   have r_bt0 := s_bt1.trans r_bt1
   exact q t l0 l1 l2 _ (s_bt0.trans r_bt0) zB ⟨_, (r_l0 _ _ zB), .cons ⟨xa, la, rfl, (r_xa _ _ zB), _, (r_la _ _ zB), (.cons ⟨at0, rfl, (r_at0 _ _ zB)⟩ .nil)⟩ (.cons ⟨xb, lb, rfl, (r_xb _ _ zB), _, (r_lb _ _ zB), (.cons ⟨bt0, rfl, (r_bt0 _ _ zB)⟩ (.cons ⟨bt1, rfl, (r_bt1 _ _ zB)⟩ (.cons ⟨bt2, rfl, (r_bt2 _ _ zB)⟩ .nil)))⟩ .nil)⟩ (fl1 (r_l1 _ _ zB) (r_l1t _ _ zB)) (fl1 (r_l2 _ _ zB) (r_l2t _ _ zB))
 have e2 : ¬ c % 4 = 3 := fun z => e2 (decide_eq_true (by show V.int (c % 4) = _; rw [z]))
 unfold sumF at q
 rw [if_neg e0, if_neg e1, if_neg e2] at q
 refine ⟨_, rfl, _, rfl, (by show 2 ≤ sizeLine; decide), fun at0 h_at0 => ⟨(by show 1 ≤ sizeLine; decide), fun la h_la => ⟨(by show 2 ≤ sizeLine; decide), fun xa h_xa => ⟨_, rfl, _, rfl, (by show 2 ≤ sizeLine; decide), fun bt0 h_bt0 => ⟨(by show 1 ≤ sizeLine; decide), fun lb h_lb => ⟨(by show 2 ≤ sizeLine; decide), fun xb h_xb => ⟨(by show 2 ≤ sizeLine; decide), fun l0 h_l0 => ⟨(by show 0 ≤ sizeLine; decide), fun l1 h_l1 => ⟨(by show 0 ≤ sizeLine; decide), fun l2 h_l2 => ⟨(by show 3 ≤ sizeLine; decide), fun t h_t => ?_⟩⟩⟩⟩⟩⟩⟩⟩⟩⟩
 have s_at0 := zD h_at0 (.tup [.int 2, .str (nmF p 11)])
 have s_la := zD h_la (.lst [.ref at0])
 have s_xa := zD h_xa (.tup [.str (nmF p 10), .ref la])
 have s_bt0 := zD h_bt0 (.tup [.int 3, .str (nmF p 0)])
 have s_lb := zD h_lb (.lst [.ref bt0])
 have s_xb := zD h_xb (.tup [.str (nmF p 11), .ref lb])
 have s_l0 := zD h_l0 (.lst [.ref xa, .ref xb])
 have s_l1 := zD h_l1 (.lst [])
 have s_l2 := zD h_l2 (.lst [])
 have s_t := zD h_t (.tup [.ref l0, .ref l1, .ref l2])
 have r_l2 := s_t
 have r_l1 := s_l2.trans r_l2
 have r_l0 := s_l1.trans r_l1
 have r_xb := s_l0.trans r_l0
 have r_lb := s_xb.trans r_xb
 have r_bt0 := s_lb.trans r_lb
 have r_xa := s_bt0.trans r_bt0
 have r_la := s_xa.trans r_xa
 have r_at0 := s_la.trans r_la
 exact q t l0 l1 l2 _ (s_at0.trans r_at0) zB ⟨_, (r_l0 _ _ zB), .cons ⟨xa, la, rfl, (r_xa _ _ zB), _, (r_la _ _ zB), (.cons ⟨at0, rfl, (r_at0 _ _ zB)⟩ .nil)⟩ (.cons ⟨xb, lb, rfl, (r_xb _ _ zB), _, (r_lb _ _ zB), (.cons ⟨bt0, rfl, (r_bt0 _ _ zB)⟩ .nil)⟩ .nil)⟩ (fl0 (r_l1 _ _ zB)) (fl0 (r_l2 _ _ zB))
end
end K40
set_option maxHeartbeats 4000000
namespace K40
open PySem L2
seal PE PT PW PA PS PSs PG PGs PI PO PSet OpR UnR CallR TruR IxR SlR PC PPs
local macro_rules | `(tactic| walk_at "rd1") => `(tactic| first
 | (refine And.intro rfl ?_)
 | (refine And.intro (by assumption) ?_)
 | (refine And.intro (fun _ e => e) ?_)
 | (refine And.intro (TyOf.str _) ?_) | (refine And.intro (TyOf.int _) ?_) | (refine And.intro (TyOf.bl _) ?_) | (refine And.intro TyOf.non ?_)
 | (refine iteT ?_) | (refine iteF ?_)
 | (apply Exists.intro))
local macro_rules | `(tactic| walk_at "rd") => `(tactic| repeat (walk_at "rd1"))
def Lk (H H' : Hp) : Prop := ∀ b o, H b = some o → (∀ z, o ≠ .lst z) → H' b = some o
theorem Lk.upd {H : Hp} {l : Addr} {zs us : List V} (hl : H l = some (.lst zs)) : Lk H (L2.upd H l (.lst us)) := fun b o hb hn => by
 rw [zK (fun e => by rw [e, hl] at hb; cases hb; exact hn _ rfl)]; exact hb
theorem AtR.lk {A : Adr} {H H' : Hp} (s : Lk H H') {x : Addr} : ∀ {a : At}, AtR A H x a → AtR A H' x a
 | .is .., h => let ⟨d, h1⟩ := h; ⟨d, s _ _ h1 (by intro z e; cases e)⟩
 | .cmp .., h => let ⟨d, h1⟩ := h; ⟨d, s _ _ h1 (by intro z e; cases e)⟩
theorem SyR.lk {A : Adr} {H H' : Hp} (s : Lk H H') {v : V} : ∀ {o : Option At}, SyR A H v o → SyR A H' v o
 | none, h => h
 | some _, h => let ⟨a, e, h1⟩ := h; ⟨a, e, h1.lk s⟩
theorem RowR.lk {A : Adr} {H H' : Hp} (s : Lk H H') {x : V} {r : Rw} (h : RowR A H x r) : RowR A H' x r :=
 let ⟨a, dx, kd, dk, sv, fs, e, h1, h2, h3⟩ := h; ⟨a, dx, kd, dk, sv, fs, e, s _ _ h1 (by intro z e; cases e), s _ _ h2 (by intro z e; cases e), h3.lk s⟩
theorem WyR.lk {A : Adr} {H H' : Hp} (s : Lk H H') {x : V} {y : Wy} (h : WyR A H x y) : WyR A H' x y := let ⟨a, v, e, h1, h2⟩ := h; ⟨a, v, e, s _ _ h1 (by intro z e; cases e), h2.lk s⟩
theorem FlR.lk {H H' : Hp} (s : Lk H H') {x : V} {f : Flt} (h : FlR H x f) : FlR H' x f := let ⟨t, e, h1⟩ := h; ⟨t, e, s _ _ h1 (by intro z e; cases e)⟩
theorem FlL.upd {H : Hp} {l lt : Addr} {zs us : List V} (hl : H lt = some (.lst zs)) (n : l ≠ lt) {fs : List Flt} (h : FlL H l fs) : FlL (L2.upd H lt (.lst us)) l fs :=
 let ⟨xs, e, h1⟩ := h; ⟨xs, by rw [zK n]; exact e, zN h1 fun _ _ r => r.lk (Lk.upd hl)⟩
def ShN (A : Adr) (lt : Addr) (H : Hp) (x : V) (t : Sh) : Prop := ∃ a dx r y xs ys, x = .ref a ∧ H a = some (oSh A dx (.str t.nm) .non r y) ∧ r ≠ lt ∧ y ≠ lt ∧ H r = some (.lst xs) ∧ H y = some (.lst ys) ∧ Paired (RowR A H) xs t.rows ∧ Paired (WyR A H) ys t.ways
theorem ShN.sh {A : Adr} {lt : Addr} {H : Hp} {x : V} {t : Sh} (h : ShN A lt H x t) : ShR A H x t := let ⟨a, dx, r, y, xs, ys, e, h1, _, _, h2, h3, h4, h5⟩ := h; ⟨a, dx, r, y, xs, ys, e, h1, h2, h3, h4, h5⟩
theorem ShN.same {A : Adr} {lt : Addr} {H H' : Hp} (s : Same H H') {x : V} {t : Sh} (h : ShN A lt H x t) : ShN A lt H' x t :=
 let ⟨a, dx, r, y, xs, ys, e, h1, n1, n2, h2, h3, h4, h5⟩ := h
 ⟨a, dx, r, y, xs, ys, e, s _ _ h1, n1, n2, s _ _ h2, s _ _ h3, zN h4 fun _ _ q => q.same s, zN h5 fun _ _ q => q.same s⟩
theorem ShN.upd {A : Adr} {lt : Addr} {H : Hp} {zs us : List V} (hl : H lt = some (.lst zs)) {x : V} {t : Sh} (h : ShN A lt H x t) : ShN A lt (L2.upd H lt (.lst us)) x t := by
 obtain ⟨a, dx, r, y, xs, ys, e, h1, n1, n2, h2, h3, h4, h5⟩ := h
 exact ⟨a, dx, r, y, xs, ys, e, by rw [zK (ne_of h1 hl (by intro z; cases z))]; exact h1, n1, n2, by rw [zK n1]; exact h2, by rw [zK n2]; exact h3, zN h4 fun _ _ q => q.lk (Lk.upd hl), zN h5 fun _ _ q => q.lk (Lk.upd hl)⟩
def shK (p : Int) (c : Nat → Int) (s : Nat) : Sh := ⟨if s = 2 ∧ c 4 % 5 = 0 then nmF p 20 else nmF p (20 + s), [(nmF p s, none), (nmF p (3 + s), (rowF p s (c s)).1)], [(wayF p s (c s / 5)).1]⟩
def shL (p : Int) (c : Nat → Int) : List Sh := (List.range 3).map (shK p c)
theorem shL_at {p : Int} {c : Nat → Int} {i : Nat} (h : i < 3) : (shL p c)[i]? = some (shK p c i) := by unfold shL; rw [List.getElem?_map, List.getElem?_range h]; rfl
def nmd (p : Int) (c : Nat → Int) (i : Nat) : List Flt := (List.range i).flatMap fun s => (rowF p s (c s)).2.1 ++ (wayF p s (c s / 5)).2.1
def rcd (p : Int) (c : Nat → Int) (i : Nat) : List Flt := (List.range i).flatMap fun s => (rowF p s (c s)).2.2 ++ (wayF p s (c s / 5)).2.2
theorem nmd_s (p : Int) (c : Nat → Int) (i : Nat) : nmd p c (i + 1) = nmd p c i ++ (rowF p i (c i)).2.1 ++ (wayF p i (c i / 5)).2.1 := by
 unfold nmd; rw [List.range_succ, List.flatMap_append, List.append_assoc]; simp
theorem rcd_s (p : Int) (c : Nat → Int) (i : Nat) : rcd p c (i + 1) = rcd p c i ++ (rowF p i (c i)).2.2 ++ (wayF p i (c i / 5)).2.2 := by
 unfold rcd; rw [List.range_succ, List.flatMap_append, List.append_assoc]; simp
def dwF (p : Int) (c : Nat → Int) : List Flt := if c 4 % 5 = 0 then [(.tw, nmF p 20)] else []
def dueF (p : Int) (c : Nat → Int) : List Flt := dwF p c ++ nmd p c 3 ++ (sumF p (c 3)).2.1 ++ (sumF p (c 3)).2.2 ++ rcd p c 3 ++ [(.no, Str.ofString "None")]
theorem row_le (p : Int) (s : Nat) (c : Int) : (rowF p s c).2.1.length ≤ 1 ∧ (rowF p s c).2.2.length ≤ 1 := by
 unfold rowF; repeat' split
 all_goals exact ⟨by first | exact Nat.zero_le _ | exact Nat.le_refl _, by first | exact Nat.zero_le _ | exact Nat.le_refl _⟩
theorem way_le (p : Int) (s : Nat) (c : Int) : (wayF p s c).2.1.length ≤ 1 ∧ (wayF p s c).2.2.length ≤ 1 := by
 unfold wayF; repeat' split
 all_goals exact ⟨by first | exact Nat.zero_le _ | exact Nat.le_refl _, by first | exact Nat.zero_le _ | exact Nat.le_refl _⟩
theorem sum_le (p : Int) (c : Int) : (sumF p c).2.1.length ≤ 1 ∧ (sumF p c).2.2.length ≤ 1 ∧ (sumF p c).1.length ≤ 2 := by
 unfold sumF; repeat' split
 all_goals exact ⟨by first | exact Nat.zero_le _ | exact Nat.le_refl _, by first | exact Nat.zero_le _ | exact Nat.le_refl _, Nat.le_refl _⟩
theorem nmd_le (p : Int) (c : Nat → Int) : ∀ i, (nmd p c i).length ≤ 2 * i
 | 0 => Nat.le_refl _
 | i + 1 => by
   have := nmd_le p c i; have := (row_le p i (c i)).1; have := (way_le p i (c i / 5)).1
   rw [nmd_s, List.length_append, List.length_append]; omega
theorem rcd_le (p : Int) (c : Nat → Int) : ∀ i, (rcd p c i).length ≤ 2 * i
 | 0 => Nat.le_refl _
 | i + 1 => by
   have := rcd_le p c i; have := (row_le p i (c i)).2; have := (way_le p i (c i / 5)).2
   rw [rcd_s, List.length_append, List.length_append]; omega
theorem FlL.cat {H : Hp} {l1 l2 : Addr} {f1 f2 : List Flt} (h1 : FlL H l1 f1) (h2 : FlL H l2 f2) : ∃ x1 x2, H l1 = some (.lst x1) ∧ H l2 = some (.lst x2) ∧ x1.length = f1.length ∧ x2.length = f2.length ∧ ∀ l3, H l3 = none → FlL (L2.upd H l3 (.lst (x1 ++ x2))) l3 (f1 ++ f2) := by
 obtain ⟨x1, e1, p1⟩ := h1
 obtain ⟨x2, e2, p2⟩ := h2
 exact ⟨x1, x2, e1, e2, zL p1, zL p2, fun l3 h3 => ⟨_, zB, zN (xE p1 p2) fun _ _ r => r.same (zD h3 _)⟩⟩
def cV (c : Nat → Int) : List V := (List.range 5).map fun k => V.int (c k)
theorem cV_at {c : Nat → Int} {k : Nat} (h : k < 5) : (cV c)[k]? = some (.int (c k)) := by unfold cV; rw [List.getElem?_map, List.getElem?_range h]; rfl
def spPaper (A : Adr) (K : W.Frag) : Sp := fun vs H Q _ => ∃ (a lc : Addr) (ns : List Int) (c : Nat → Int), vs = [.ref a, .ref lc] ∧ SqL K H a (ns.map V.int) ∧ ns.length ≤ 1000 ∧ Ns ns ∧ H lc = some (.lst (cV c)) ∧
 ∀ t pa l H', Same H H' → H' t = some (.tup [.ref pa, .ref l]) → PaR A H' pa (shL (cellF ns 0) c) (sumF (cellF ns 0) (c 3)).1 → FlL H' l (dueF (cellF ns 0) c) → Q (.ref t) H'
section
variable {P : Program} {w : World} {K : W.Frag} {mg : Str → Option Value} {base : Heap} {A : Adr}
theorem ok_law_paper (T : Txt K mg A) : FnOk P w K mg base CX0 6 A.f_law_paper A.d_law_paper ["_law_script", "_law_cells"] (spPaper A K) := by
 have G_c_Sheet___init := ok_sheet_init (P := P) (w := w) (base := base) T
 have G_c_Paper___init := ok_paper_init (P := P) (w := w) (base := base) T
 have G_c_Ask___init := ok_ask_init (P := P) (w := w) (base := base) T
 have G_c_YesNo___init := ok_yinit (P := P) (w := w) (base := base) T
 have G_law_name := ok_law_name (P := P) (w := w) (base := base) T
 have G_law_row := ok_law_row (P := P) (w := w) (base := base) T
 have G_law_way := ok_law_way (P := P) (w := w) (base := base) T
 have G_law_sums := ok_law_sums (P := P) (w := w) (base := base) T
 refine T.F_law_paper.ok sc_law_paper (fun vs H Q E h => ?_) (fun cdv A0 outer s H vs Q E hr h => ?_)
 · obtain ⟨a, lc, ns, c, rfl, _⟩ := h
   rfl
 obtain ⟨a, lc, ns, c, rfl, hS, hl, hb, hlc, q⟩ := h
 refine ⟨_, (zF (zX (i := 2) sc_law_paper.nd rfl (by first | exact Or.inl rfl | exact Or.inr rfl) (zQ zC))
     (zF (zX (i := 3) sc_law_paper.nd rfl (by first | exact Or.inl rfl | exact Or.inr rfl) (zQ zC))
     (zF (zX (i := 4) sc_law_paper.nd rfl (by first | exact Or.inl rfl | exact Or.inr rfl) (zQ zC))
     (zF (ps_forR PassesOwn.never rfl (pi_range1 rfl T.n_range (zA zJ zC)) (zS (i := 5) sc_law_paper.nd rfl (by first | exact Or.inl rfl | exact Or.inr rfl)) (zF (ps_asg (zV G_law_row (hr.mono (by first | decide | omega)) rfl T.m_law_row T.k_law_row T.b_law_row .nil yB (zA (pv 0) (zA (pv 5) (zA (xK xG (pv 1) (pv 5) (fun _ _ => rfl)) zC)))) (pg_tup rfl (yD (zS (i := 6) sc_law_paper.nd rfl (by first | exact Or.inl rfl | exact Or.inr rfl)) (yD (zS (i := 7) sc_law_paper.nd rfl (by first | exact Or.inl rfl | exact Or.inr rfl)) (yD (zS (i := 8) sc_law_paper.nd rfl (by first | exact Or.inl rfl | exact Or.inr rfl)) xI)))))
     (zF (ps_asg (zV G_law_way (hr.mono (by first | decide | omega)) rfl T.m_law_way T.k_law_way T.b_law_way .nil yB (zA (pv 0) (zA (pv 5) (zA (zU op_fdiv (xK xG (pv 1) (pv 5) (fun _ _ => rfl)) zJ) zC)))) (pg_tup rfl (yD (zS (i := 9) sc_law_paper.nd rfl (by first | exact Or.inl rfl | exact Or.inr rfl)) (yD (zS (i := 10) sc_law_paper.nd rfl (by first | exact Or.inl rfl | exact Or.inr rfl)) (yD (zS (i := 11) sc_law_paper.nd rfl (by first | exact Or.inl rfl | exact Or.inr rfl)) xI)))))
     (zF (zX (i := 12) sc_law_paper.nd rfl (by first | exact Or.inl rfl | exact Or.inr rfl) (zQ (zA (yZ T.mk_Ask G_c_Ask___init (hr.mono (by first | decide | omega)) rfl T.m_Ask T.bd_c_Ask___init T.dv_c_Ask___init yB (zA (zV G_law_name (hr.mono (by first | decide | omega)) rfl T.m_law_name T.k_law_name T.b_law_name .nil yB (zA (pv 0) (zA (pv 5) zC))) (zA (pe_make0 T.mk_YesNo G_c_YesNo___init (hr.mono (by first | decide | omega)) rfl T.m_YesNo T.b_c_YesNo___init .nil yB) zC))) (zA (yZ T.mk_Ask G_c_Ask___init (hr.mono (by first | decide | omega)) rfl T.m_Ask T.b_c_Ask___init .nil yB (zA (zV G_law_name (hr.mono (by first | decide | omega)) rfl T.m_law_name T.k_law_name T.b_law_name .nil yB (zA (pv 0) (zA (zU xR zJ (pv 5)) zC))) (zA (pe_make0 T.mk_YesNo G_c_YesNo___init (hr.mono (by first | decide | omega)) rfl T.m_YesNo T.b_c_YesNo___init .nil yB) (zA (pv 6) zC)))) zC))))
     (zF (zX (i := 13) sc_law_paper.nd rfl (by first | exact Or.inl rfl | exact Or.inr rfl) (zV G_law_name (hr.mono (by first | decide | omega)) rfl T.m_law_name T.k_law_name T.b_law_name .nil yB (zA (pv 0) (zA (zU xR zJ (pv 5)) zC))))
     (zF (yN (PW.pt (pw_and (yC op_eq (pv 5) zJ (yJ _)) (pw_and1 (yC op_eq (zU yU (xK xG (pv 1) zJ (fun _ _ => rfl)) zJ) zJ (yJ _))))) (zH (zX (i := 13) sc_law_paper.nd rfl (by first | exact Or.inl rfl | exact Or.inr rfl) (zV G_law_name (hr.mono (by first | decide | omega)) rfl T.m_law_name T.k_law_name T.b_law_name .nil yB (zA (pv 0) (zA zJ zC))))) zW)
     (zF (yI (pe_bm PySem.F.plainAttrs_list PySem.F.slot_list_append PySem.F.type_list_append mt_append (pv 2) (zA (yZ T.mk_Sheet G_c_Sheet___init (hr.mono (by first | decide | omega)) rfl T.m_Sheet T.b_c_Sheet___init .nil yB (zA (pv 13) (zA pe_non (zA (pv 12) (zA (zQ (zA (pv 9) zC)) zC))))) zC)))
     (zF (zX (i := 3) sc_law_paper.nd rfl (by first | exact Or.inl rfl | exact Or.inr rfl) (zU op_cat (zU op_cat (pv 3) (pv 7)) (pv 10)))
     (zH (zX (i := 4) sc_law_paper.nd rfl (by first | exact Or.inl rfl | exact Or.inr rfl) (zU op_cat (zU op_cat (pv 4) (pv 8)) (pv 11))))))))))))
     (zF (ps_asg (zV G_law_sums (hr.mono (by first | decide | omega)) rfl T.m_law_sums T.k_law_sums T.b_law_sums .nil yB (zA (pv 0) (zA (xK xG (pv 1) zJ (fun _ _ => rfl)) zC))) (pg_tup rfl (yD (zS (i := 14) sc_law_paper.nd rfl (by first | exact Or.inl rfl | exact Or.inr rfl)) (yD (zS (i := 7) sc_law_paper.nd rfl (by first | exact Or.inl rfl | exact Or.inr rfl)) (yD (zS (i := 15) sc_law_paper.nd rfl (by first | exact Or.inl rfl | exact Or.inr rfl)) xI)))))
     (zF (zX (i := 16) sc_law_paper.nd rfl (by first | exact Or.inl rfl | exact Or.inr rfl) (pe_slice sl_list (zQ (zA (zM (zA zP (zA (zV G_law_name (hr.mono (by first | decide | omega)) rfl T.m_law_name T.k_law_name T.b_law_name .nil yB (zA (pv 0) (zA zJ zC))) zC))) zC)) po_none (po_some (yH call_int1 (by rfl) T.n_int Bt.int (zA (pe_cmpR op_eq (zU yU (xK xG (pv 1) zJ (fun _ _ => rfl)) zJ) zJ (yJ _)) zC)))))
     (zH (zY (zM (zA (yZ T.mk_Paper G_c_Paper___init (hr.mono (by first | decide | omega)) rfl T.m_Paper T.b_c_Paper___init .nil yB (zA zP (zA (pv 2) (zA (pv 14) zC)))) (zA (zU op_cat (zU op_cat (zU op_cat (zU op_cat (zU op_cat (pv 16) (pv 3)) (pv 7)) (pv 15)) (pv 4)) (zQ (zA (zM (zA zP (zA zP zC))) zC))) zC))))))))))), ?_⟩
 generalize hp : cellF ns 0 = p at q
 refine ⟨(by show 0 ≤ sizeLine; decide), fun lt hlt => ⟨(by show 0 ≤ sizeLine; decide), fun ln0 hln0 => ⟨(by show 0 ≤ sizeLine; decide), fun lr0 hlr0 => ?_⟩⟩⟩
 have s1 := zD hlt (.lst [])
 have s2 := zD hln0 (.lst [])
 have s3 := zD hlr0 (.lst [])
 have sA := s1.trans (s2.trans s3)
 have h1 := (s2.trans s3) _ _ (zB (H := H) (a := lt) (o := .lst []))
 have h2 := s3 _ _ (zB (a := ln0) (o := .lst []))
 have h3 := zB (H := upd (upd H lt (.lst [])) ln0 (.lst [])) (a := lr0) (o := .lst [])
 have nl2 : ln0 ≠ lt := (yX hln0).1
 have nl3 : lr0 ≠ lt := (yX (yX hlr0).2).1
 generalize upd (upd (upd H lt (.lst [])) ln0 (.lst [])) lr0 (.lst []) = H1 at sA h1 h2 h3
 have sN : ∀ {G : Hp}, Fr [lt] H1 G → Same H G := fun {G} F b o hb' => F _ _ (sA _ _ hb') (ni1 (zI hb' hlt))
 dsimp only [gName, List.set_cons_succ, List.set_cons_zero]
 refine seq_mid (fun σ' G => ∃ ln lr u5 u6 u7 u8 u9 u10 u11 u12 u13 u14 u15 u16 vs, σ' = [some (.ref a), some (.ref lc), some (.ref lt), some (.ref ln), some (.ref lr), u5, u6, u7, u8, u9, u10, u11, u12, u13, u14, u15, u16] ∧ Same H G ∧ G lt = some (.lst vs) ∧ Paired (ShR A G) vs (shL p c) ∧ FlL G ln (nmd p c 3) ∧ FlL G lr (rcd p c 3)) (fun σ' G hR => ?_) (fun hk => ?_)
 · obtain ⟨ln, lr, u5, u6, u7, u8, u9, u10, u11, u12, u13, u14, u15, u16, vs, rfl, sG, hvs, hsh, hln, hlr⟩ := hR
   refine ⟨_, rfl, _, rfl, lc, _, _, _, rfl, rfl, SqL.of (sG _ _ hlc), yS (j := 3) (cV_at (by omega)), a, ns, c 3, rfl, sG.seq hS, hl, hb, fun t l0 m1 m2 G1 s4 ht hT hm1 hm2 => ?_⟩
   rw [hp] at hT hm1 hm2
   refine ⟨t, _, rfl, SqT.of ht, rfl, _, _, rfl, _, _, rfl, _, _, rfl, rfl, ?_⟩
   dsimp only [gName, List.set_cons_succ, List.set_cons_zero]
   have sG1 := sG.trans s4
   refine ⟨_, rfl, a, ns, 20, rfl, sG1.seq hS, by decide, hl, hb, ?_⟩
   rw [hp]
   refine ⟨(by show 2 ≤ sizeLine; decide), fun t1 ht1 => ⟨(by show 1 ≤ sizeLine; decide), fun l1 hl1 => ?_⟩⟩
   have s5 := zD ht1 (.tup [.str (Str.ofString "twice"), .str (nmF p 20)])
   have s6 := zD hl1 (.lst [.ref t1])
   have ht1' := s6 _ _ (zB (H := G1) (a := t1) (o := .tup [.str (Str.ofString "twice"), .str (nmF p 20)]))
   have hl1' : (upd (upd G1 t1 (.tup [.str (Str.ofString "twice"), .str (nmF p 20)])) l1 (.lst [.ref t1])) l1 = some (.lst [.ref t1]) := zB
   have s7 := s5.trans s6
   generalize upd (upd G1 t1 (.tup [.str (Str.ofString "twice"), .str (nmF p 20)])) l1 (.lst [.ref t1]) = G2 at s7 ht1' hl1'
   have sG2 := sG1.trans s7
   refine ⟨_, rfl, lc, _, _, _, rfl, rfl, SqL.of (sG2 _ _ hlc), yS (j := 4) (cV_at (by omega)), _, _, rfl, rfl, (by show (0 : Int) < 5; decide), rfl, .inr ⟨_, rfl, ?_⟩⟩
   refine ⟨_, rfl, l1, _, rfl, SqL.of hl1', fun lw hlw => ?_⟩
   obtain ⟨Y, hY, hPY, hYl⟩ : ∃ Y, cutV [V.ref t1] none (some (if decide (V.int (c 4 % 5) = V.int 0) = true then 1 else 0)) = Y ∧ Paired (FlR G2) Y (dwF p c) ∧ Y.length ≤ 1 := by
     by_cases e : c 4 % 5 = 0
     · refine ⟨_, rfl, ?_⟩
       unfold dwF
       rw [if_pos (decide_eq_true (by rw [e])), if_pos e]
       exact ⟨.cons ⟨t1, rfl, ht1'⟩ .nil, Nat.le_refl _⟩
     · refine ⟨_, rfl, ?_⟩
       unfold dwF
       rw [if_neg (fun z => e (V.int.inj (of_decide_eq_true z))), if_neg e]
       exact ⟨.nil, Nat.zero_le _⟩
   rw [show cutV [V.ref t1] none (some (if decide ((fun i j => V.int (i % j)) (c 4) 5 = V.int 0) = true then 1 else 0)) = Y from hY]
   have s8 := zD hlw (.lst Y)
   have b0 : FlL (upd G2 lw (.lst Y)) lw (dwF p c) := ⟨Y, zB, zN hPY fun _ _ r => r.same s8⟩
   have s9 := s4.trans (s7.trans s8)
   have b1 := hln.same s9
   have b2 := hm1.same (s7.trans s8)
   have b3 := hm2.same (s7.trans s8)
   have b4 := hlr.same s9
   have hvs9 := s9 _ _ hvs
   have hT9 := hT.kp (.of (s7.trans s8))
   have hsh9 := zN hsh fun _ _ r => r.same s9
   have sG9 := sG.trans s9
   generalize upd G2 lw (.lst Y) = G3 at b0 b1 b2 b3 b4 hvs9 hT9 hsh9 sG9
   dsimp only [gName, List.set_cons_succ, List.set_cons_zero]
   have z1 := nmd_le p c 3
   have z2 := rcd_le p c 3
   have z3 := sum_le p (c 3)
   have z0 : (dwF p c).length ≤ 1 := by rw [← zL hPY]; exact hYl
   refine ⟨_, rfl, _, rfl, fun pa pdx np npd nep => ?_⟩
   have sm := yL np npd (.ins A.c_Paper pdx [])
   refine ⟨pa, pdx, _, lt, l0, vs, _, rfl, zB, sm _ _ hvs9, hT9.kp (.of sm), (by omega), fun q1 q2 G4 F4 g1 g2 g3 => ⟨rfl, ?_⟩⟩
   have s10 : Same G3 G4 := fun b o hb' => F4 _ _ (sm _ _ hb') (ni1 (zI hb' np))
   have hPa : PaR A G4 pa (shL p c) (sumF p (c 3)).1 := ⟨pdx, _, q1, q2, vs, g1, g2, zN hsh9 fun _ _ r => r.same s10, g3⟩
   have b0 := b0.same s10
   have b1 := b1.same s10
   have b2 := b2.same s10
   have b3 := b3.same s10
   have b4 := b4.same s10
   obtain ⟨y1, y2, a1, a2, a3, a4, a5⟩ := b0.cat b1
   refine ⟨_, rfl, _, rfl, lw, ln, _, _, rfl, rfl, a1, a2, (by rw [sizeLine_eq]; omega), fun v1 hv1 => ?_⟩
   have s11 := zD hv1 (.lst (y1 ++ y2))
   obtain ⟨x1, x2, c1, c2, c3, c4, c5⟩ := (a5 v1 hv1).cat (b2.same s11)
   rw [List.length_append] at c3
   refine ⟨_, rfl, v1, m1, _, _, rfl, rfl, c1, c2, (by rw [sizeLine_eq]; omega), fun v2 hv2 => ?_⟩
   have s12 := zD hv2 (.lst (x1 ++ x2))
   obtain ⟨w1, w2, d1, d2, d3, d4, d5⟩ := (c5 v2 hv2).cat (b3.same (s11.trans s12))
   rw [List.length_append, List.length_append] at d3
   refine ⟨_, rfl, v2, m2, _, _, rfl, rfl, d1, d2, (by rw [sizeLine_eq]; omega), fun v3 hv3 => ?_⟩
   have s13 := zD hv3 (.lst (w1 ++ w2))
   obtain ⟨r1, r2, e1, e2, e3, e4, e5⟩ := (d5 v3 hv3).cat (b4.same (s11.trans (s12.trans s13)))
   rw [List.length_append, List.length_append, List.length_append] at e3
   refine ⟨_, rfl, v3, lr, _, _, rfl, rfl, e1, e2, (by rw [sizeLine_eq]; omega), fun v4 hv4 => ?_⟩
   have s14 := zD hv4 (.lst (r1 ++ r2))
   refine ⟨(by show 2 ≤ sizeLine; decide), fun t2 ht2 => ⟨(by show 1 ≤ sizeLine; decide), fun v5 hv5 => ?_⟩⟩
   have s15 := zD ht2 (.tup [.str (fw .no), .str (Str.ofString "None")])
   have s16 := zD hv5 (.lst [.ref t2])
   obtain ⟨o1, o2, g1', g2', g3', g4', g5'⟩ := ((e5 v4 hv4).same (s15.trans s16)).cat (fl1 (f := (.no, Str.ofString "None")) (zB (a := v5) (o := .lst [.ref t2])) (s16 _ _ zB))
   rw [List.length_append, List.length_append, List.length_append, List.length_append] at g3'
   refine ⟨v4, v5, _, _, rfl, rfl, g1', g2', (by rw [sizeLine_eq, g3', g4']; show _ + 1 ≤ _; omega), fun v6 hv6 => ⟨(by show 2 ≤ sizeLine; decide), fun t3 ht3 => ?_⟩⟩
   have s17 := zD hv6 (.lst (o1 ++ o2))
   have s18 := zD ht3 (.tup [.ref pa, .ref v6])
   have s19 := s11.trans (s12.trans (s13.trans (s14.trans (s15.trans (s16.trans (s17.trans s18))))))
   exact q t3 pa v6 _ (sG9.trans (s10.trans s19)) zB (hPa.same s19) ((g5' v6 hv6).same s18)
 · refine ⟨_, rfl, (by decide), (by decide), ?_⟩
   refine for_rangeR (fun i σ G => ∃ ln lr u5 u6 u7 u8 u9 u10 u11 u12 u13 u14 u15 u16 vs, σ = [some (.ref a), some (.ref lc), some (.ref lt), some (.ref ln), some (.ref lr), u5, u6, u7, u8, u9, u10, u11, u12, u13, u14, u15, u16] ∧ Fr [lt] H1 G ∧ G lt = some (.lst vs) ∧ Paired (ShN A lt G) vs ((shL p c).take i) ∧ ln ≠ lt ∧ lr ≠ lt ∧ FlL G ln (nmd p c i) ∧ FlL G lr (rcd p c i)) ⟨ln0, lr0, _, _, _, _, _, _, _, _, _, _, _, _, [], rfl, Fr.of (Same.refl _), h1, .nil, nl2, nl3, fl0 h2, fl0 h3⟩ (fun i σ G hi hw => ?_) (fun σ G hw => ?_)
   · obtain ⟨ln, lr, u5, u6, u7, u8, u9, u10, u11, u12, u13, u14, u15, u16, vs, rfl, F, hvs, hsh, n1, n2, hln, hlr⟩ := hw
     have hi3 : i < 3 := hi
     have sG := sN F
     have e0 : ((0 : Int) + (i : Nat)) = ((i : Nat) : Int) := Int.zero_add _
     rw [e0]
     refine ⟨_, rfl, _, rfl, _, rfl, _, rfl, lc, _, _, _, rfl, rfl, SqL.of (sG _ _ hlc), yS (cV_at (by omega)), a, ns, i, c i, rfl, sG.seq hS, hl, hb, hi3, fun t sv l1 l2 G1 s4 nl1 nl2 ht hsv hl1 hl2 => ?_⟩
     refine ⟨t, _, rfl, SqT.of ht, rfl, _, _, rfl, _, _, rfl, _, _, rfl, rfl, ?_⟩
     dsimp only [gName, List.set_cons_succ, List.set_cons_zero]
     have sG1 := sG.trans s4
     refine ⟨_, rfl, _, rfl, _, rfl, _, rfl, lc, _, _, _, rfl, rfl, SqL.of (sG1 _ _ hlc), yS (cV_at (by omega)), _, _, rfl, rfl, ⟨by decide, by decide⟩, a, ns, i, c i / 5, rfl, sG1.seq hS, hl, hb, hi3, fun t' x m1 m2 G2 s5 nm1 nm2 ht' hx hm1 hm2 => ?_⟩
     rw [hp] at hsv hl1 hl2 hx hm1 hm2
     refine ⟨t', _, rfl, SqT.of ht', rfl, _, _, rfl, _, _, rfl, _, _, rfl, rfl, ?_⟩
     dsimp only [gName, List.set_cons_succ, List.set_cons_zero]
     have sG2 := sG1.trans s5
     refine ⟨_, rfl, _, rfl, a, ns, i, rfl, sG2.seq hS, (by omega), hl, hb, ?_⟩
     rw [hp]
     refine fun k1 d1 nk1 nd1 _ => ⟨k1, d1, rfl, zB, fun f1 => ⟨rfl, ?_⟩⟩
     rw [yO]
     have s6 := yL nk1 nd1 (.ins A.c_YesNo d1 f1.1)
     have hk1 : (upd (upd G2 d1 (.own k1)) k1 (.ins A.c_YesNo d1 f1.1)) k1 = some (.ins A.c_YesNo d1 f1.1) := zB
     generalize upd (upd G2 d1 (.own k1)) k1 (.ins A.c_YesNo d1 f1.1) = G3 at s6 hk1
     refine fun r1 e1 nr1 ne1 _ => ⟨r1, e1, _, _, _, rfl, zB, rfl, ?_⟩
     rw [yO]
     have s7 := yL nr1 ne1 (oAsk A e1 (.str (nmF p i)) (.ref k1) .non)
     have hr1 : (upd (upd G3 e1 (.own r1)) r1 (oAsk A e1 (.str (nmF p i)) (.ref k1) .non)) r1 = some (oAsk A e1 (.str (nmF p i)) (.ref k1) .non) := zB
     generalize upd (upd G3 e1 (.own r1)) r1 (oAsk A e1 (.str (nmF p i)) (.ref k1) .non) = G4 at s7 hr1
     have sG4 := sG2.trans (s6.trans s7)
     refine ⟨_, rfl, _, rfl, _, _, rfl, rfl, a, ns, 3 + i, (by dsimp only; rw [show ((3 : Int) + (i : Nat)) = ((3 + i : Nat) : Int) by omega]; rfl), sG4.seq hS, (by omega), hl, hb, ?_⟩
     rw [hp]
     refine fun k2 d2 nk2 nd2 _ => ⟨k2, d2, rfl, zB, fun f2 => ⟨rfl, ?_⟩⟩
     rw [yO]
     have s8 := yL nk2 nd2 (.ins A.c_YesNo d2 f2.1)
     have hk2 : (upd (upd G4 d2 (.own k2)) k2 (.ins A.c_YesNo d2 f2.1)) k2 = some (.ins A.c_YesNo d2 f2.1) := zB
     generalize upd (upd G4 d2 (.own k2)) k2 (.ins A.c_YesNo d2 f2.1) = G5 at s8 hk2
     refine ⟨_, rfl, fun r2 e2 nr2 ne2 _ => ⟨r2, e2, _, _, _, rfl, zB, rfl, ?_⟩⟩
     rw [yO]
     have s9 := yL nr2 ne2 (oAsk A e2 (.str (nmF p (3 + i))) (.ref k2) sv)
     have hr2 : (upd (upd G5 e2 (.own r2)) r2 (oAsk A e2 (.str (nmF p (3 + i))) (.ref k2) sv)) r2 = some (oAsk A e2 (.str (nmF p (3 + i))) (.ref k2) sv) := zB
     generalize upd (upd G5 e2 (.own r2)) r2 (oAsk A e2 (.str (nmF p (3 + i))) (.ref k2) sv) = G6 at s9 hr2
     refine ⟨(by show 2 ≤ sizeLine; decide), fun lw hlw => ?_⟩
     have s10 := zD hlw (.lst [.ref r1, .ref r2])
     have hlw' : (upd G6 lw (.lst [.ref r1, .ref r2])) lw = some (.lst [.ref r1, .ref r2]) := zB
     generalize upd G6 lw (.lst [.ref r1, .ref r2]) = G7 at s10 hlw'
     have t7 : Same G2 G7 := s6.trans (s7.trans (s8.trans (s9.trans s10)))
     have sG7 := sG2.trans t7
     have hrows : Paired (RowR A G7) [.ref r1, .ref r2] (shK p c i).rows := .cons ⟨r1, e1, k1, d1, _, f1, rfl, (s8.trans (s9.trans s10)) _ _ hr1, (s7.trans (s8.trans (s9.trans s10))) _ _ hk1, rfl⟩ (.cons ⟨r2, e2, k2, d2, _, f2, rfl, s10 _ _ hr2, (s9.trans s10) _ _ hk2, hsv.same (s5.trans t7)⟩ .nil)
     dsimp only [gName, List.set_cons_succ, List.set_cons_zero]
     refine ⟨_, rfl, _, rfl, _, _, rfl, rfl, a, ns, 20 + i, (by dsimp only; rw [show ((20 : Int) + (i : Nat)) = ((20 + i : Nat) : Int) by omega]; rfl), sG7.seq hS, (by omega), hl, hb, ?_⟩
     rw [hp]
     dsimp only [gName, List.set_cons_succ, List.set_cons_zero]
     refine seq_mid (fun σ' G' => G7 = G' ∧ σ' = [some (.ref a), some (.ref lc), some (.ref lt), some (.ref ln), some (.ref lr), some (.int (i : Nat)), some sv, some (.ref l1), some (.ref l2), some x, some (.ref m1), some (.ref m2), some (.ref lw), some (.str (shK p c i).nm), u14, u15, u16]) (fun σ' G' hR => ?_) (fun hk' => ?_)
     · obtain ⟨rfl, rfl⟩ := hR
       have sF : Same G G7 := s4.trans (s5.trans t7)
       have hvs7 := sF _ _ hvs
       refine ⟨_, rfl, .inl ⟨rfl, _, SqL.of hvs7⟩, _, rfl, _, rfl, _, rfl, (by show 1 ≤ sizeLine; decide), fun ly hly => ?_⟩
       have s11 := zD hly (.lst [x])
       refine fun sa sdx nsa nsd nes => ?_
       have sm := yL nsa nsd (.ins A.c_Sheet sdx [])
       have s12 := s11.trans sm
       refine ⟨sa, sdx, _, _, lw, ly, _, _, rfl, zB, s12 _ _ hlw', sm _ _ zB, fun q1 q2 G8 _ hq1 hq2 F8 g1 g2 g3 => ⟨rfl, ?_⟩⟩
       have s13 : Same G7 G8 := fun b o hb' => F8 _ _ (s12 _ _ hb') (ni1 (zI (s11 _ _ hb') nsa))
       have s14 := sF.trans s13
       have lvs : vs.length ≤ 3 := by rw [zL hsh, List.length_take]; omega
       have hvs8 := s14 _ _ hvs
       have t8 : Same G2 G8 := t7.trans s13
       have nsh : ShN A lt G8 (.ref sa) (shK p c i) := ⟨sa, sdx, q1, q2, _, _, rfl, g1, Ne.symm (zI (s12 _ _ hvs7) hq1), Ne.symm (zI (s12 _ _ hvs7) hq2), g2, g3, zN hrows fun _ _ r => r.same s13, .cons (hx.same t8) .nil⟩
       refine ⟨lt, _, _, rfl, rfl, hvs8, yP (m := 100) (by omega), ?_⟩
       have hup := Lk.upd (us := vs ++ [.ref sa]) hvs8
       have F9 := ((F.trans (Fr.of s14)) : Fr [lt] H1 G8).upd (List.mem_singleton.mpr rfl) (.lst (vs ++ [.ref sa]))
       have hv9 : (upd G8 lt (.lst (vs ++ [.ref sa]))) lt = some (.lst (vs ++ [.ref sa])) := zB
       have hsh9 : Paired (ShN A lt (upd G8 lt (.lst (vs ++ [.ref sa])))) (vs ++ [.ref sa]) ((shL p c).take (i + 1)) := by
         rw [yM (shL_at hi3)]
         exact xE (zN hsh fun _ _ r => (r.same s14).upd hvs8) (.cons (nsh.upd hvs8) .nil)
       have k1' : l1 ≠ lt := fun e => by rw [e, hvs] at nl1; cases nl1
       have k2' : l2 ≠ lt := fun e => by rw [e, hvs] at nl2; cases nl2
       have k3' : m1 ≠ lt := fun e => by rw [e, s4 _ _ hvs] at nm1; cases nm1
       have k4' : m2 ≠ lt := fun e => by rw [e, s4 _ _ hvs] at nm2; cases nm2
       have b1 := (hln.same s14).upd (us := vs ++ [.ref sa]) hvs8 n1
       have b2 := (hlr.same s14).upd (us := vs ++ [.ref sa]) hvs8 n2
       have b3 := (hl1.same (s5.trans t8)).upd (us := vs ++ [.ref sa]) hvs8 k1'
       have b4 := (hl2.same (s5.trans t8)).upd (us := vs ++ [.ref sa]) hvs8 k2'
       have b5 := (hm1.same t8).upd (us := vs ++ [.ref sa]) hvs8 k3'
       have b6 := (hm2.same t8).upd (us := vs ++ [.ref sa]) hvs8 k4'
       generalize upd G8 lt (.lst (vs ++ [.ref sa])) = G9 at F9 hv9 hsh9 b1 b2 b3 b4 b5 b6
       have z1 := nmd_le p c i
       have z2 := rcd_le p c i
       have z3 := row_le p i (c i)
       have z4 := way_le p i (c i / 5)
       obtain ⟨y1, y2, a1, a2, a3, a4, a5⟩ := b1.cat b3
       refine ⟨_, rfl, _, rfl, ln, l1, _, _, rfl, rfl, a1, a2, (by rw [sizeLine_eq]; omega), fun v1 hv1 => ?_⟩
       have s20 := zD hv1 (.lst (y1 ++ y2))
       obtain ⟨y3, y4, c1, c2, c3, c4, c5⟩ := (a5 v1 hv1).cat (b5.same s20)
       have c3' := (show (y1 ++ y2).length = _ from by rw [List.length_append, a3, a4])
       refine ⟨_, rfl, v1, m1, _, _, rfl, rfl, c1, c2, (by rw [sizeLine_eq, c3, c4, List.length_append]; omega), fun v2 hv2 => ?_⟩
       have s21 := zD hv2 (.lst (y3 ++ y4))
       have d1 := c5 v2 hv2
       rw [← nmd_s] at d1
       have s22 := s20.trans s21
       have nv2 : v2 ≠ lt := Ne.symm (zI (s20 _ _ hv9) hv2)
       generalize upd (upd G9 v1 (.lst (y1 ++ y2))) v2 (.lst (y3 ++ y4)) = G10 at s22 d1
       dsimp only [gName, List.set_cons_succ, List.set_cons_zero]
       obtain ⟨x1, x2, a1, a2, a3, a4, a5⟩ := (b2.same s22).cat (b4.same s22)
       refine ⟨_, rfl, _, rfl, lr, l2, _, _, rfl, rfl, a1, a2, (by rw [sizeLine_eq]; omega), fun w1 hw1 => ?_⟩
       have s23 := zD hw1 (.lst (x1 ++ x2))
       obtain ⟨x3, x4, c1, c2, c3, c4, c5⟩ := (a5 w1 hw1).cat (b6.same (s22.trans s23))
       refine ⟨_, rfl, w1, m2, _, _, rfl, rfl, c1, c2, (by rw [sizeLine_eq, c3, c4, List.length_append]; omega), fun w2 hw2 => ?_⟩
       have s24 := zD hw2 (.lst (x3 ++ x4))
       have d2 := c5 w2 hw2
       rw [← rcd_s] at d2
       have nw2 : w2 ≠ lt := Ne.symm (zI ((s22.trans s23) _ _ hv9) hw2)
       have s25 := s22.trans (s23.trans s24)
       exact ⟨v2, w2, _, _, _, _, _, _, _, _, _, _, _, _, _, rfl, F9.trans (Fr.of s25), s25 _ _ hv9, zN hsh9 fun _ _ r => r.same s25, nv2, nw2, d1.same (s23.trans s24), d2⟩
     · refine ⟨_, rfl, rfl, _, rfl, ite2 (fun e => ?_) (fun e => ?_)⟩
       · have e : i = 2 := by have := V.int.inj (of_decide_eq_true e); omega
         refine ⟨_, rfl, lc, _, _, _, rfl, rfl, SqL.of (sG7 _ _ hlc), yS (j := 4) (cV_at (by omega)), _, _, rfl, rfl, (by show (0 : Int) < 5; decide), rfl, _, rfl, ite2 (fun f => ?_) (fun f => ?_)⟩
         · have f : c 4 % 5 = 0 := V.int.inj (of_decide_eq_true f)
           refine ⟨_, rfl, a, ns, 20, rfl, sG7.seq hS, by decide, hl, hb, ?_⟩
           rw [hp]
           refine hk' _ _ ⟨rfl, ?_⟩
           dsimp only [gName, List.set_cons_succ, List.set_cons_zero, shK]
           rw [if_pos ⟨e, f⟩]
         · refine hk' _ _ ⟨rfl, ?_⟩
           dsimp only [shK]
           rw [if_neg (fun z => f (decide_eq_true (by show V.int (c 4 % 5) = _; rw [z.2])))]
       · refine hk' _ _ ⟨rfl, ?_⟩
         dsimp only [shK]
         rw [if_neg (fun z => e (decide_eq_true (by rw [z.1]; rfl)))]
   · obtain ⟨ln, lr, u5, u6, u7, u8, u9, u10, u11, u12, u13, u14, u15, u16, vs, rfl, F, hvs, hsh, n1, n2, hln, hlr⟩ := hw
     exact hk _ _ ⟨ln, lr, _, _, _, _, _, _, _, _, _, _, _, _, vs, rfl, sN F, hvs, zN hsh fun _ _ r => r.sh, hln, hlr⟩
end
end K40
set_option maxHeartbeats 4000000
namespace K40
open PySem L2
seal PE PT PW PA PS PSs PG PGs PI PO PSet OpR UnR CallR TruR IxR SlR PC PPs
local macro_rules | `(tactic| walk_at "rd1") => `(tactic| first
 | (refine And.intro rfl ?_)
 | (refine And.intro (by assumption) ?_)
 | (refine And.intro (fun _ e => e) ?_)
 | (refine And.intro (TyOf.str _) ?_) | (refine And.intro (TyOf.int _) ?_) | (refine And.intro (TyOf.bl _) ?_) | (refine And.intro TyOf.non ?_)
 | (refine iteT ?_) | (refine iteF ?_)
 | (apply Exists.intro))
local macro_rules | `(tactic| walk_at "rd") => `(tactic| repeat (walk_at "rd1"))
def Kd (A : Adr) (H : Hp) (kvs : List (Key × V)) (rs : List Rw) : Prop := kvs.length ≤ rs.length ∧ (∀ z v, valV kvs (.inr z) = some v → ∃ (kd dk : Addr) (fs : YFs), v = .ref kd ∧ H kd = some (.ins A.c_YesNo dk fs.1)) ∧ ∀ z, (valV kvs (.inr z)).isSome = decide (z ∈ rs.map (·.1))
theorem Kd.nil {A : Adr} {H : Hp} : Kd A H [] [] := ⟨Nat.le_refl _, (fun z v h => by simp [valV] at h), fun z => by simp [valV]⟩
theorem Kd.put {A : Adr} {H : Hp} {kvs : List (Key × V)} {rs : List Rw} (h : Kd A H kvs rs) {r : Rw} {kd dk : Addr} {fs : YFs} (hk : H kd = some (.ins A.c_YesNo dk fs.1)) : Kd A H (putK kvs (.inr r.1) (.ref kd)) (rs ++ [r]) := by
 refine ⟨Nat.le_trans (xM ..) (by rw [List.length_append, List.length_singleton]; have := h.1; omega), fun y v hv => ?_, fun y => ?_⟩
 · rw [valV_put] at hv
   split at hv
   · cases hv; exact ⟨kd, dk, fs, rfl, hk⟩
   · exact h.2.1 y v hv
 · rw [valV_put, List.map_append]
   split
   · rename_i e
     rw [Sum.inr.inj e]
     exact (decide_eq_true (List.mem_append.mpr (.inr (List.mem_singleton.mpr rfl)))).symm
   · rename_i ne
     rw [h.2.2 y]
     refine decide_eq_decide.mpr ⟨fun q => List.mem_append.mpr (.inl q), fun q => (List.mem_append.mp q).elim id fun q => ?_⟩
     exact absurd (by rw [List.mem_singleton.mp q]) ne
def allR (sh : List Sh) : List Rw := sh.flatMap (·.rows)
theorem allR_snoc {sh : List Sh} {i : Nat} {t : Sh} (h : sh[i]? = some t) : allR (sh.take (i + 1)) = allR (sh.take i) ++ t.rows := by
 unfold allR; rw [yM h, List.flatMap_append]; simp
def nms (t : Sh) : List Str := t.nm :: t.rows.map (·.1)
def allN (sh : List Sh) : List Str := sh.flatMap nms
theorem allN_snoc {sh : List Sh} {i : Nat} {t : Sh} (h : sh[i]? = some t) : allN (sh.take (i + 1)) = allN (sh.take i) ++ nms t := by
 unfold allN; rw [yM h, List.flatMap_append]; simp
def GP (sh : List Sh) (ts : List Tot) : Prop := sh.length ≤ 10 ∧ (∀ t ∈ sh, t.rows.length ≤ 3 ∧ t.ways.length ≤ 10) ∧ ts.length ≤ 100 ∧ ∀ t ∈ ts, t.2.length ≤ 100
theorem allN_le {sh : List Sh} (h : ∀ t ∈ sh, t.rows.length ≤ 3 ∧ t.ways.length ≤ 10) : (allN sh).length ≤ 4 * sh.length := by
 induction sh with
 | nil => exact Nat.le_refl _
 | cons a r ih =>
   have := ih fun t ht => h t (List.mem_cons_of_mem _ ht)
   have h1 := (h a (List.mem_cons_self ..)).1
   unfold allN at this ⊢
   rw [List.flatMap_cons, List.length_append, List.length_cons]
   show (a.rows.map (·.1)).length + 1 + _ ≤ _
   rw [List.length_map]; omega
theorem allR_le {sh : List Sh} (h : ∀ t ∈ sh, t.rows.length ≤ 3 ∧ t.ways.length ≤ 10) : (allR sh).length ≤ 3 * sh.length := by
 induction sh with
 | nil => exact Nat.le_refl _
 | cons a r ih =>
   have := ih fun t ht => h t (List.mem_cons_of_mem _ ht)
   have h1 := (h a (List.mem_cons_self ..)).1
   unfold allR at this ⊢
   rw [List.flatMap_cons, List.length_append, List.length_cons]; omega
def spKinds (A : Adr) : Sp := fun vs H Q _ => ∃ a sh ts, vs = [.ref a] ∧ PaR A H a sh ts ∧ GP sh ts ∧ ∀ d kvs H', Same H H' → H' d = some (.dK kvs) → Kd A H kvs (allR sh) → Q (.ref d) H'
def spGiven (A : Adr) : Sp := fun vs H Q _ => ∃ a sh ts, vs = [.ref a] ∧ PaR A H a sh ts ∧ GP sh ts ∧ ∀ l H', Same H H' → H' l = some (.lst ((allN sh ++ ts.map (·.1)).map V.str)) → Q (.ref l) H'
section
variable {P : Program} {w : World} {K : W.Frag} {mg : Str → Option Value} {base : Heap} {A : Adr}
theorem ok_kinds_of (T : Txt K mg A) : FnOk P w K mg base CX0 1 A.f_kinds_of A.d_kinds_of ["paper"] (spKinds A) := by
 refine T.F_kinds_of.ok sc_kinds_of (fun vs H Q E h => ?_) (fun cdv A0 outer s H vs Q E hr h => ?_)
 · obtain ⟨a, sh, ts, rfl, _⟩ := h
   rfl
 obtain ⟨a, sh, ts, rfl, hP, hG, q⟩ := h
 refine ⟨_, (zF (zX (i := 1) sc_kinds_of.nd rfl (by first | exact Or.inl rfl | exact Or.inr rfl) pe_dnewK)
     (zF (ps_forR PassesOwn.never rfl (yR (zO (pv 0) rfl)) (zS (i := 2) sc_kinds_of.nd rfl (by first | exact Or.inl rfl | exact Or.inr rfl)) (zH (ps_forR PassesOwn.never rfl (yR (zO (pv 2) rfl)) (zS (i := 3) sc_kinds_of.nd rfl (by first | exact Or.inl rfl | exact Or.inr rfl)) (zH (yN (yY (yA yK (by rfl) T.n_isinstance Bt.isinstance (zA (pv 3) (zA (xL rfl T.v_Ask) zC)))) (zH (ps_dput (xN hr) (pv 1) (zO (pv 3) rfl) (zO (pv 3) rfl) rfl)) zW)))))
     (zH (zY (pv 1))))), ?_⟩
 intro d hd
 obtain ⟨dx, u, q1, q2, xs, p1, p2, p3, p4⟩ := hP
 have s0 := zD hd (.dK [])
 have lxs := zL p3
 have hle := allR_le hG.2.1
 have h10 := hG.1
 refine ⟨_, rfl, a, _, dx, _, _, rfl, s0 _ _ p1, T.cl_Paper, T.no_Paper_sheets, (by rw [lk2 (by symm)]), q1, rfl, ⟨_, SqL.of (s0 _ _ p2)⟩, ?_⟩
 refine yQ (xs := xs) (fun i σ G => ∃ u v kvs, σ = [some (.ref a), some (.ref d), u, v] ∧ Fr [d] (upd H d (.dK [])) G ∧ G d = some (.dK kvs) ∧ Kd A H kvs (allR (sh.take i))) ⟨_, _, [], rfl, Fr.of (Same.refl _), zB, Kd.nil⟩ (fun i σ G hi hw => ?_) (fun i x σ G hx hw => ?_) (fun σ G hw => ?_)
 · obtain ⟨u, v, kvs, rfl, F, _⟩ := hw
   exact SqL.of (F _ _ (s0 _ _ p2) (ni1 (zI p2 hd)))
 · obtain ⟨u, v, kvs, rfl, F, hd', hK⟩ := hw
   obtain ⟨t, ht, sa, sdx, r, y, rs, ys, rfl, a1, a2, a3, a4, a5⟩ := yE p3 hx
   have htl := (hG.2.1 t (List.mem_of_getElem? ht)).1
   have nn : ∀ {b : Addr} {o : HO}, H b = some o → G b = some o := fun {b o} hb => F _ _ (s0 _ _ hb) (ni1 (zI hb hd))
   refine ⟨_, rfl, sa, _, sdx, _, _, rfl, nn a1, T.cl_Sheet, T.no_Sheet_rows, rfl, r, rfl, ⟨_, SqL.of (nn a2)⟩, ?_⟩
   refine yQ (xs := rs) (fun j σ G => ∃ v kvs, σ = [some (.ref a), some (.ref d), some (.ref sa), v] ∧ Fr [d] (upd H d (.dK [])) G ∧ G d = some (.dK kvs) ∧ Kd A H kvs (allR (sh.take i) ++ t.rows.take j)) ⟨_, kvs, rfl, F, hd', by rw [List.take_zero, List.append_nil]; exact hK⟩ (fun j σ G2 hj hw => ?_) (fun j x σ G2 hx2 hw => ?_) (fun σ G2 hw => ?_)
   · obtain ⟨v, kvs, rfl, F, _⟩ := hw
     exact SqL.of (F _ _ (s0 _ _ a2) (ni1 (zI a2 hd)))
   · obtain ⟨v, kvs, rfl, F, hd', hK⟩ := hw
     obtain ⟨rw', hrw, ra, rdx, kd, dk, sv, fs, rfl, b1, b2, b3⟩ := yE a4 hx2
     have nn : ∀ {b : Addr} {o : HO}, H b = some o → G2 b = some o := fun {b o} hb => F _ _ (s0 _ _ hb) (ni1 (zI hb hd))
     have hkl : kvs.length ≤ 100 := by
       have h1 := hK.1
       rw [List.length_append, List.length_take] at h1
       have h2 := allR_le (sh := sh.take i) fun t ht => hG.2.1 t (List.mem_of_mem_take ht)
       rw [List.length_take] at h2
       omega
     rw [yM hrw]
     refine ⟨_, rfl, _, _, _, _, rfl, rfl, .old (T.ty_Ask G2 ra rdx _ (nn b1)), T.kr_Ask_Ask, _, rfl, iteT ?_⟩
     refine ⟨_, rfl, ra, _, rdx, _, _, rfl, nn b1, T.cl_Ask, T.no_Ask_kind, rfl, _, rfl, _, rfl, ra, _, rdx, _, _, rfl, nn b1, T.cl_Ask, T.no_Ask_name, rfl, d, _, rfl, DPut.k (k := .inr rw'.1) hd' (yP (m := 1000) (by omega)), ?_⟩
     refine ⟨_, _, rfl, F.upd (List.mem_singleton.mpr rfl) _, zB, ?_⟩
     rw [← List.append_assoc]
     exact hK.put b2
   · obtain ⟨v, kvs, rfl, F, hd', hK⟩ := hw
     rw [zL a4, List.take_length, ← allR_snoc ht] at hK
     exact ⟨_, _, kvs, rfl, F, hd', hK⟩
 · obtain ⟨u, v, kvs, rfl, F, hd', hK⟩ := hw
   rw [lxs, List.take_length] at hK
   exact ⟨_, rfl, q d kvs G (fun b o hb => F _ _ (s0 _ _ hb) (ni1 (zI hb hd))) hd' hK⟩
theorem ok_names_given (T : Txt K mg A) : FnOk P w K mg base CX0 1 A.f_names_given A.d_names_given ["paper"] (spGiven A) := by
 refine T.F_names_given.ok sc_names_given (fun vs H Q E h => ?_) (fun cdv A0 outer s H vs Q E hr h => ?_)
 · obtain ⟨a, sh, ts, rfl, _⟩ := h
   rfl
 obtain ⟨a, sh, ts, rfl, hP, hG, q⟩ := h
 refine ⟨_, (zF (zX (i := 1) sc_names_given.nd rfl (by first | exact Or.inl rfl | exact Or.inr rfl) (zQ zC))
     (zF (ps_forR PassesOwn.never rfl (yR (zO (pv 0) rfl)) (zS (i := 2) sc_names_given.nd rfl (by first | exact Or.inl rfl | exact Or.inr rfl)) (zF (yI (pe_bm PySem.F.plainAttrs_list PySem.F.slot_list_append PySem.F.type_list_append mt_append (pv 1) (zA (zO (pv 2) rfl) zC)))
     (zH (yI (pe_bm PySem.F.plainAttrs_list PySem.F.slot_list_extend PySem.F.type_list_extend mt_extend (pv 1) (zA (pe_compR (xF (x := "row") (M := ["paper", "names", "sheet"]) rfl (by rfl)) rfl (yR (zO (pv 2) rfl)) (fun _ _ _ _ => pe_eqv (by exact (zO (pv 0) rfl)) (by dsimp only [compCx] <;> rfl))) zC))))))
     (zH (zY (zU op_cat (pv 1) (pe_compT (compOk2_of (xF (x := "name") (M := ["paper", "names", "sheet"]) rfl (by rfl)) (by rfl) (by symm)) rfl (yR (zO (pv 0) rfl)) (fun _ _ _ _ => pifs_nil) (fun _ _ _ _ => (pv 0)))))))), ?_⟩
 refine ⟨(by show 0 ≤ sizeLine; decide), fun d hd => ?_⟩
 obtain ⟨dx, u, q1, q2, xs, p1, p2, p3, p4⟩ := hP
 have s0 := zD hd (.lst [])
 have lxs := zL p3
 have h10 := hG.1
 refine ⟨_, rfl, a, _, dx, _, _, rfl, s0 _ _ p1, T.cl_Paper, T.no_Paper_sheets, (by rw [lk2 (by symm)]), q1, rfl, ⟨_, SqL.of (s0 _ _ p2)⟩, ?_⟩
 refine yQ (xs := xs) (fun i σ G => ∃ u, σ = [some (.ref a), some (.ref d), u] ∧ Fr [d] (upd H d (.lst [])) G ∧ G d = some (.lst ((allN (sh.take i)).map V.str))) ⟨_, rfl, Fr.of (Same.refl _), zB⟩ (fun i σ G hi hw => ?_) (fun i x σ G hx hw => ?_) (fun σ G hw => ?_)
 · obtain ⟨u, rfl, F, _⟩ := hw
   exact SqL.of (F _ _ (s0 _ _ p2) (ni1 (zI p2 hd)))
 · obtain ⟨u, rfl, F, hd'⟩ := hw
   obtain ⟨t, ht, sa, sdx, r, y, rs, ys, rfl, a1, a2, a3, a4, a5⟩ := yE p3 hx
   have htl := (hG.2.1 t (List.mem_of_getElem? ht)).1
   have hnl : ((allN (sh.take i)).map V.str).length ≤ 40 := by
     rw [List.length_map]
     have h2 := allN_le (sh := sh.take i) fun t ht => hG.2.1 t (List.mem_of_mem_take ht)
     rw [List.length_take] at h2
     omega
   have nn : ∀ {b : Addr} {o : HO}, H b = some o → G b = some o := fun {b o} hb => F _ _ (s0 _ _ hb) (ni1 (zI hb hd))
   refine ⟨_, rfl, .inl ⟨rfl, _, SqL.of hd'⟩, _, rfl, sa, _, sdx, _, _, rfl, nn a1, T.cl_Sheet, T.no_Sheet_name, rfl, d, _, _, rfl, rfl, hd', yP (m := 100) (by omega), ?_⟩
   have F2 := F.upd (List.mem_singleton.mpr rfl) (.lst ((allN (sh.take i)).map V.str ++ [V.str t.nm]))
   have h2 : (upd G d (.lst ((allN (sh.take i)).map V.str ++ [V.str t.nm]))) d = some (.lst ((allN (sh.take i)).map V.str ++ [V.str t.nm])) := zB
   have nn2 : ∀ {b : Addr} {o : HO}, H b = some o → (upd G d (.lst ((allN (sh.take i)).map V.str ++ [V.str t.nm]))) b = some o := fun {b o} hb => F2 _ _ (s0 _ _ hb) (ni1 (zI hb hd))
   generalize upd G d (.lst ((allN (sh.take i)).map V.str ++ [V.str t.nm])) = G2 at F2 h2 nn2
   have sG2 : Same H G2 := fun b o hb => nn2 hb
   refine ⟨_, rfl, .inl ⟨rfl, _, SqL.of h2⟩, _, rfl, sa, _, sdx, _, _, rfl, nn2 a1, T.cl_Sheet, T.no_Sheet_rows, rfl, r, rfl, ⟨_, SqL.of (nn2 a2)⟩, ?_⟩
   refine comp_listR (xs := rs) (yP (m := 100) (by rw [zL a4]; omega)) (fun j zs G3 => G2 = G3 ∧ zs = ((t.rows.take j).map (·.1)).map V.str) ⟨rfl, rfl⟩ (fun j zs G3 hw => hw.1 ▸ SqL.of (nn2 a2)) (fun j x zs G3 hx2 _ hw => ?_) (fun zs G3 _ hw p hp => ?_)
   · obtain ⟨rfl, rfl⟩ := hw
     obtain ⟨rw', hrw, ra, rdx, kd, dk, sv, fs, rfl, b1, b2, b3⟩ := yE a4 hx2
     rw [yM hrw, List.map_append, List.map_append]
     exact ⟨_, rfl, ra, _, rdx, _, _, rfl, nn2 b1, T.cl_Ask, T.no_Ask_name, rfl, rfl, rfl⟩
   · obtain ⟨rfl, rfl⟩ := hw
     rw [zL a4, List.take_length]
     have sp := zD hp (.lst ((t.rows.map (·.1)).map V.str))
     have e1 : ((t.rows.map (·.1)).map V.str).length = t.rows.length := by rw [List.length_map, List.length_map]
     refine ⟨d, p, _, _, rfl, rfl, sp _ _ h2, zB, (by rw [List.length_append, e1, sizeLine_eq, List.length_singleton]; omega), ?_⟩
     refine ⟨_, rfl, (F2.trans (Fr.of sp)).upd (List.mem_singleton.mpr rfl) _, ?_⟩
     rw [zB, allN_snoc ht, List.map_append]
     unfold nms
     rw [List.map_cons, List.append_assoc]; rfl
 · obtain ⟨u, rfl, F, hd'⟩ := hw
   rw [lxs, List.take_length] at hd'
   have sH : Same H G := fun b o hb => F _ _ (s0 _ _ hb) (ni1 (zI hb hd))
   obtain ⟨zs, hz1, hz2⟩ := p4.kp (.of sH)
   have lz := zL hz2
   have h100 := hG.2.2.1
   have hnl := allN_le hG.2.1
   refine ⟨_, rfl, _, rfl, a, _, dx, _, _, rfl, sH _ _ p1, T.cl_Paper, T.no_Paper_totals, rfl, q2, rfl, ⟨_, SqL.of hz1⟩, ?_⟩
   refine comp_listT (xs := zs) (yP (m := 100) (by omega)) (fun i ys G' => G = G' ∧ ys = ((ts.take i).map (·.1)).map V.str) ⟨rfl, rfl⟩ (fun i ys G' hw => hw.1 ▸ SqL.of hz1) (fun i x ys G' hxi _ hw => ?_) (fun ys G' hw p2 hp2 => ?_)
   · obtain ⟨rfl, rfl⟩ := hw
     obtain ⟨t, ht, b, l, rfl, hb, _⟩ := yE hz2 hxi
     refine ⟨b, _, _, rfl, SqT.of hb, tt_true ⟨_, rfl, rfl, ?_⟩⟩
     rw [yM ht, List.map_append, List.map_append]; rfl
   · obtain ⟨rfl, rfl⟩ := hw
     rw [lz, List.take_length]
     have s2 := zD hp2 (.lst ((ts.map (·.1)).map V.str))
     refine ⟨d, p2, _, _, rfl, rfl, s2 _ _ hd', zB, ?_, fun pz hpz => q pz _ (sH.trans (s2.trans (zD hpz _))) ?_⟩
     · rw [List.length_map, List.length_map, List.length_map, sizeLine_eq]; omega
     · rw [zB, List.map_append]
end
end K40
set_option maxHeartbeats 4000000
namespace K40
open PySem L2
seal PE PT PW PA PS PSs PG PGs PI PO PSet OpR UnR CallR TruR IxR SlR PC PPs
local macro_rules | `(tactic| walk_at "rd1") => `(tactic| first
 | (refine And.intro rfl ?_)
 | (refine And.intro (by assumption) ?_)
 | (refine And.intro (fun _ e => e) ?_)
 | (refine And.intro (TyOf.str _) ?_) | (refine And.intro (TyOf.int _) ?_) | (refine And.intro (TyOf.bl _) ?_) | (refine And.intro TyOf.non ?_)
 | (refine iteT ?_) | (refine iteF ?_)
 | (apply Exists.intro))
local macro_rules | `(tactic| walk_at "rd") => `(tactic| repeat (walk_at "rd1"))
theorem valV_out {kvs : List (Key × V)} {k : Key} (h : k ∉ kvs.map (·.1)) : valV kvs k = none := by
 cases e : valV kvs k with
 | none => rfl
 | some v => exact absurd (valV_in e) h
theorem merge_app : ∀ (rows acc : List (Key × V)), ((acc ++ rows).map (·.1)).Nodup → mergeK acc rows = acc ++ rows
 | [], acc, _ => by rw [List.append_nil]; rfl
 | r :: rs, acc, h => by
   have h1 : r.1 ∉ acc.map (·.1) := fun hm => by
     rw [List.map_append, List.nodup_append] at h
     exact h.2.2 _ hm _ (List.mem_cons_self ..) rfl
   show mergeK (putK acc r.1 r.2) rs = _
   rw [putK_new _ (valV_out h1), merge_app rs (acc ++ [(r.1, r.2)]) (by rw [List.append_assoc]; exact h), List.append_assoc]
   rfl
theorem mkD_nd {rows : List (Key × V)} (h : (rows.map (·.1)).Nodup) : mkD rows = rows := by
 show mergeK [] rows = rows
 rw [merge_app rows [] (by simpa using h)]; rfl
def RwD (H : Hp) (r : Key × V) (t : Tot) : Prop := r.1 = .inr t.1 ∧ ∃ l, r.2 = .ref l ∧ PsR H l t.2
theorem RwD.kp {H H' : Hp} (s : Kp H H') {r : Key × V} {t : Tot} (h : RwD H r t) : RwD H' r t := let ⟨e, l, e2, h1⟩ := h; ⟨e, l, e2, h1.kp s⟩
theorem rows_mk {H : Hp} : ∀ {xs : List V} {ts : List Tot}, Paired (TtR H) xs ts → ∃ rows, Paired (PrR H) xs rows ∧ Paired (RwD H) rows ts
 | _, _, .nil => ⟨[], .nil, .nil⟩
 | _, _, .cons r rs => by
   obtain ⟨rows, h1, h2⟩ := rows_mk rs
   obtain ⟨a, l, rfl, ha, hl⟩ := r
   exact ⟨(.inr _, .ref l) :: rows, .cons ⟨a, rfl, ha⟩ h1, .cons ⟨rfl, l, rfl, hl⟩ h2⟩
theorem rw_keys {H : Hp} {rows : List (Key × V)} {ts : List Tot} (h : Paired (RwD H) rows ts) : rows.map (·.1) = (ts.map (·.1)).map Sum.inr := by
 induction h with
 | nil => rfl
 | cons r _ ih => rw [List.map_cons, List.map_cons, List.map_cons, ih, r.1]
theorem rw_nd {H : Hp} {rows : List (Key × V)} {ts : List Tot} (h : Paired (RwD H) rows ts) (n : (ts.map (·.1)).Nodup) : (rows.map (·.1)).Nodup := by
 rw [rw_keys h]
 exact List.Pairwise.map _ (fun a b ne e => ne (Sum.inr.inj e)) n
theorem rw_in {H : Hp} {rows : List (Key × V)} {ts : List Tot} (h : Paired (RwD H) rows ts) (z : Str) : (valV rows (.inr z)).isSome = decide (z ∈ ts.map (·.1)) := by
 cases e : valV rows (.inr z) with
 | none =>
   have := valV_not e
   rw [rw_keys h] at this
   exact (decide_eq_false fun hz => this (List.mem_map_of_mem hz)).symm
 | some v =>
   have := valV_in e
   rw [rw_keys h] at this
   obtain ⟨y, hy, ey⟩ := List.mem_map.mp this
   cases ey
   exact (decide_eq_true hy).symm
def Dup (zs : List Str) (i : Nat) (z : Str) : Prop := zs[i]? = some z ∧ (zs.take i).Nodup ∧ z ∈ zs.take i
def spNm (C : Addr) : Sp := fun vs H Q _ => ∃ (e : Addr) (z : Str), vs = [.ref e, .str z] ∧ z.length ≤ 100000 ∧ H e = some (excN e C none) ∧ ∀ dx, H dx = none → dx ≠ e → Q .non (upd (upd H e (excN e C (some dx))) dx (.xd [("name", .str z)]))
theorem hidX {H : Hp} {e dx : Addr} {a b c : HO} (h : H e = none) (n : dx ≠ e) : hid (upd (upd (upd H e a) e b) dx c) e = upd H dx c := by
 funext x; unfold hid upd
 by_cases z : x = e
 · rw [if_pos z, z, if_neg (Ne.symm n), h]
 · rw [if_neg z, if_neg z, if_neg z]
theorem raised {C : Addr} {H : Hp} {z : Str} {E : XK} {e : Addr} (he : H e = none) (hz : z.length ≤ 100000) (k : ∀ dx H', Same H H' → H' dx = some (.xd [("name", .str z)]) → E (.ref C) (some dx) H') :
   spNm C [.ref e, .str z] (upd H e (excN e C none)) (fun v H2 => v = .non ∧ ∃ dx, H2 e = some (excN e C (some dx)) ∧ E (.ref C) (some dx) (hid H2 e)) E0 := by
 refine ⟨e, z, rfl, hz, zB, fun dx hdx ne => ⟨rfl, dx, (by rw [zK (Ne.symm ne)]; exact zB), ?_⟩⟩
 rw [hidX he ne]
 rw [zK ne] at hdx
 exact k dx _ (zD hdx _) zB
def spTwice (A : Adr) : Sp := fun vs H Q E => ∃ a sh ts ns, vs = [.ref a] ∧ PaR A H a sh ts ∧ GP sh ts ∧ allN sh ++ ts.map (·.1) = ns ∧ (∀ z ∈ ns, z.length ≤ 100) ∧ (ns.Nodup → ∀ H', Same H H' → Q .non H') ∧
 ∀ i z, Dup ns i z → ∀ dx H', Same H H' → H' dx = some (.xd [("name", .str z)]) → E (.ref A.c_Twice) (some dx) H'
def spSay (A : Adr) : Sp := fun vs H Q _ => ∃ x r, vs = [x] ∧ RowR A H x r ∧ ∀ v, SyR A H v r.2 → Q v H
def spAtoms (A : Adr) : Sp := fun vs H Q _ => ∃ v o, vs = [v] ∧ SyR A H v o ∧ ∀ l H', Same H H' → H' l = some (.lst (match o with | none => [] | some _ => [v])) → Q (.ref l) H'
section
variable {P : Program} {w : World} {K : W.Frag} {mg : Str → Option Value} {base : Heap} {A : Adr}
theorem ok_tw_init (T : Txt K mg A) : FnOk P w K mg base (CXW P w) 1 A.f_c_Twice___init A.d_c_Twice___init ["self", "name"] (spNm A.c_Twice) := by
 refine T.F_c_Twice___init.okX sc_c_Twice___init (fun vs H Q E h => ?_) (fun cdv A0 outer s H vs Q E hr h => ?_)
 · obtain ⟨e, z, rfl, _⟩ := h
   rfl
 obtain ⟨e, z, rfl, hz, he, q⟩ := h
 refine ⟨_, (zF (yI (pe_binit T.bi_AskError rfl T.m_AskError (zA (pv 0) (zA (pe_fstrJ (jp_s (pv 1) (jp_c jp_nil))) zC))))
     (zH (ps_fldX (pv 0) (pv 1) rfl rfl))), ?_⟩
 refine ⟨_, rfl, _, rfl, z, rfl, hz, fun y => ⟨e, A.c_Twice, _, rfl, he, T.mx_Twice.ex, ?_⟩⟩
 exact ⟨_, rfl, _, rfl, e, A.c_Twice, rfl, he, T.es_Twice_name, fun dx hdx ne => q dx hdx ne⟩
theorem ok_nw_init (T : Txt K mg A) : FnOk P w K mg base (CXW P w) 1 A.f_c_NoWay___init A.d_c_NoWay___init ["self", "name"] (spNm A.c_NoWay) := by
 refine T.F_c_NoWay___init.okX sc_c_NoWay___init (fun vs H Q E h => ?_) (fun cdv A0 outer s H vs Q E hr h => ?_)
 · obtain ⟨e, z, rfl, _⟩ := h
   rfl
 obtain ⟨e, z, rfl, hz, he, q⟩ := h
 refine ⟨_, (zF (yI (pe_binit T.bi_AskError rfl T.m_AskError (zA (pv 0) (zA (pe_fstrJ (jp_c (jp_s (pv 1) jp_nil))) zC))))
     (zH (ps_fldX (pv 0) (pv 1) rfl rfl))), ?_⟩
 refine ⟨_, rfl, _, rfl, z, rfl, hz, fun y => ⟨e, A.c_NoWay, _, rfl, he, T.mx_NoWay.ex, ?_⟩⟩
 exact ⟨_, rfl, _, rfl, e, A.c_NoWay, rfl, he, T.es_NoWay_name, fun dx hdx ne => q dx hdx ne⟩
theorem ok_un_init (T : Txt K mg A) : FnOk P w K mg base (CXW P w) 1 A.f_c_Unknown___init A.d_c_Unknown___init ["self", "name"] (spNm A.c_Unknown) := by
 refine T.F_c_Unknown___init.okX sc_c_Unknown___init (fun vs H Q E h => ?_) (fun cdv A0 outer s H vs Q E hr h => ?_)
 · obtain ⟨e, z, rfl, _⟩ := h
   rfl
 obtain ⟨e, z, rfl, hz, he, q⟩ := h
 refine ⟨_, (zF (yI (pe_binit T.bi_AskError rfl T.m_AskError (zA (pv 0) (zA (pe_fstrJ (jp_c (jp_s (pv 1) jp_nil))) zC))))
     (zH (ps_fldX (pv 0) (pv 1) rfl rfl))), ?_⟩
 refine ⟨_, rfl, _, rfl, z, rfl, hz, fun y => ⟨e, A.c_Unknown, _, rfl, he, T.mx_Unknown.ex, ?_⟩⟩
 exact ⟨_, rfl, _, rfl, e, A.c_Unknown, rfl, he, T.es_Unknown_name, fun dx hdx ne => q dx hdx ne⟩
theorem ok_wr_init (T : Txt K mg A) : FnOk P w K mg base (CXW P w) 1 A.f_c_WrongKind___init A.d_c_WrongKind___init ["self", "name"] (spNm A.c_WrongKind) := by
 refine T.F_c_WrongKind___init.okX sc_c_WrongKind___init (fun vs H Q E h => ?_) (fun cdv A0 outer s H vs Q E hr h => ?_)
 · obtain ⟨e, z, rfl, _⟩ := h
   rfl
 obtain ⟨e, z, rfl, hz, he, q⟩ := h
 refine ⟨_, (zF (yI (pe_binit T.bi_AskError rfl T.m_AskError (zA (pv 0) (zA (pe_fstrJ (jp_s (pv 1) (jp_c jp_nil))) zC))))
     (zH (ps_fldX (pv 0) (pv 1) rfl rfl))), ?_⟩
 refine ⟨_, rfl, _, rfl, z, rfl, hz, fun y => ⟨e, A.c_WrongKind, _, rfl, he, T.mx_WrongKind.ex, ?_⟩⟩
 exact ⟨_, rfl, _, rfl, e, A.c_WrongKind, rfl, he, T.es_WrongKind_name, fun dx hdx ne => q dx hdx ne⟩
theorem ok_re_init (T : Txt K mg A) : FnOk P w K mg base (CXW P w) 1 A.f_c_OutOfReach___init A.d_c_OutOfReach___init ["self", "name"] (spNm A.c_OutOfReach) := by
 refine T.F_c_OutOfReach___init.okX sc_c_OutOfReach___init (fun vs H Q E h => ?_) (fun cdv A0 outer s H vs Q E hr h => ?_)
 · obtain ⟨e, z, rfl, _⟩ := h
   rfl
 obtain ⟨e, z, rfl, hz, he, q⟩ := h
 refine ⟨_, (zF (yI (pe_binit T.bi_AskError rfl T.m_AskError (zA (pv 0) (zA (pe_fstrJ (jp_s (pv 1) (jp_c jp_nil))) zC))))
     (zH (ps_fldX (pv 0) (pv 1) rfl rfl))), ?_⟩
 refine ⟨_, rfl, _, rfl, z, rfl, hz, fun y => ⟨e, A.c_OutOfReach, _, rfl, he, T.mx_OutOfReach.ex, ?_⟩⟩
 exact ⟨_, rfl, _, rfl, e, A.c_OutOfReach, rfl, he, T.es_OutOfReach_name, fun dx hdx ne => q dx hdx ne⟩
theorem ok_twice (T : Txt K mg A) : FnOk P w K mg base (CXW P w) 3 A.f_look_for_twice A.d_look_for_twice ["paper"] (spTwice A) := by
 have G_names_given := ok_names_given (P := P) (w := w) (base := base) T
 have G_c_Twice___init := ok_tw_init (P := P) (w := w) (base := base) T
 refine T.F_look_for_twice.okX sc_look_for_twice (fun vs H Q E h => ?_) (fun cdv A0 outer s H vs Q E hr h => ?_)
 · obtain ⟨a, sh, ts, ns, rfl, _⟩ := h
   rfl
 obtain ⟨a, sh, ts, ns, rfl, hP, hG, hns, hz, q1, q2⟩ := h
 refine ⟨_, (zF (zX (i := 1) sc_look_for_twice.nd rfl (by first | exact Or.inl rfl | exact Or.inr rfl) pe_dnewK)
     (zH (PS.inL (ps_forL (yR (zV G_names_given (hr.mono (by first | decide | omega)) rfl T.m_names_given T.k_names_given T.b_names_given .nil yB (zA (pv 0) zC))) (zS (i := 2) sc_look_for_twice.nd rfl (by first | exact Or.inl rfl | exact Or.inr rfl)) (zF (yN (yC (op_in_d (xN hr)) (pv 2) (pv 1) (by rfl)) (zH (ps_raiseL T.mx_Twice G_c_Twice___init (hr.mono (by first | decide | omega)) T.b_c_Twice___init T.m_Twice (zA (pv 2) zC) rfl)) zW)
     (zH (ps_dput (xN hr) (pv 1) (pv 2) pe_bl rfl))))))), ?_⟩
 intro d hd
 have s0 := zD hd (.dK [])
 refine ⟨_, rfl, a, sh, ts, rfl, hP.same s0, hG, fun l H1 s1 hl => ⟨l, rfl, ⟨_, SqL.of hl⟩, ?_⟩⟩
 rw [hns] at hl
 have hl2 : ns.length ≤ 200 := by
   rw [← hns, List.length_append, List.length_map]
   have := allN_le hG.2.1
   have := hG.1
   have := hG.2.2.1
   omega
 have hd1 := s1 _ _ (zB (H := H) (a := d) (o := .dK []))
 have nld : l ≠ d := fun e => by rw [e, hd1] at hl; cases hl
 refine yQ (xs := ns.map V.str) (fun i σ G => ∃ u kvs, σ = [some (.ref a), some (.ref d), u] ∧ Fr [d] H1 G ∧ G d = some (.dK kvs) ∧ kvs.length ≤ i ∧ (ns.take i).Nodup ∧ ∀ z, (valV kvs (.inr z)).isSome = true ↔ z ∈ ns.take i) ⟨_, [], rfl, Fr.of (Same.refl _), hd1, Nat.le_refl _, List.nodup_nil, fun z => ⟨(fun h => by cases h), fun h => by cases h⟩⟩ (fun i σ G hi hw => ?_) (fun i x σ G hx hw => ?_) (fun σ G hw => ?_)
 · obtain ⟨u, kvs, rfl, F, _⟩ := hw
   exact SqL.of (F _ _ hl (ni1 nld))
 · obtain ⟨u, kvs, rfl, F, hd', hk, nd, hin⟩ := hw
   obtain ⟨z, hzi, rfl⟩ := map_get hx
   have li := (List.getElem?_eq_some_iff.mp hzi).1
   have sG : Same H G := fun b o hb => F _ _ (s1 _ _ (s0 _ _ hb)) (ni1 (zI hb hd))
   refine ⟨_, rfl, _, rfl, d, _, rfl, DGet.k (k := .inr z) hd', _, rfl, ?_⟩
   refine ite2 (fun c => ?_) (fun c => ?_)
   · refine ⟨_, rfl, (by show 1 ≤ sizeLine; decide), fun e he => raised he (by have := hz z (List.mem_of_getElem? hzi); omega) fun dx H2 s2 h2 => ?_⟩
     exact q2 i z ⟨hzi, nd, (hin z).mp c⟩ dx H2 (sG.trans s2) h2
   · have hnot : z ∉ ns.take i := fun h => c ((hin z).mpr h)
     refine ⟨_, rfl, _, rfl, d, _, rfl, DPut.k (k := .inr z) hd' (yP (m := 1000) (by have : i < ns.length := li; omega)), ?_⟩
     refine ⟨_, _, rfl, F.upd (List.mem_singleton.mpr rfl) _, zB, Nat.le_trans (xM ..) (by omega), ?_, fun y => ?_⟩
     · rw [yM hzi]
       exact List.nodup_append.mpr ⟨nd, (List.pairwise_singleton ..), fun x hx y hy e => hnot (by rw [List.mem_singleton.mp hy] at e; rw [← e]; exact hx)⟩
     · rw [valV_put, yM hzi, List.mem_append, List.mem_singleton]
       by_cases e : (Sum.inr y : Key) = .inr z
       · cases e; rw [if_pos rfl]; exact ⟨fun _ => .inr rfl, fun _ => rfl⟩
       · rw [if_neg e, hin y]
         exact ⟨.inl, fun h => h.elim id fun h => absurd (by rw [h]) e⟩
 · obtain ⟨u, kvs, rfl, F, _, _, nd, _⟩ := hw
   rw [List.length_map, List.take_length] at nd
   exact q1 nd G fun b o hb => F _ _ (s1 _ _ (s0 _ _ hb)) (ni1 (zI hb hd))
theorem ok_saying_of (T : Txt K mg A) : FnOk P w K mg base CX0 1 A.f_saying_of A.d_saying_of ["row"] (spSay A) := by
 refine T.F_saying_of.ok sc_saying_of (fun vs H Q E h => ?_) (fun cdv A0 outer s H vs Q E hr h => ?_)
 · obtain ⟨x, r, rfl, _⟩ := h
   rfl
 obtain ⟨x, r, rfl, hR, q⟩ := h
 refine ⟨_, (zH (zY (pe_ifExp (yY (yA yK (by rfl) T.n_isinstance Bt.isinstance (zA (pv 0) (zA (xL rfl T.v_Ask) zC)))) (zO (pv 0) rfl) (zO (pv 0) rfl)))), ?_⟩
 obtain ⟨a, dx, kd, dk, sv, fs, rfl, b1, b2, b3⟩ := hR
 exact ⟨_, rfl, _, _, _, _, rfl, rfl, .old (T.ty_Ask H a dx _ b1), T.kr_Ask_Ask, _, rfl, iteT ⟨_, rfl, a, _, dx, _, _, rfl, b1, T.cl_Ask, T.no_Ask_when, rfl, q _ b3⟩⟩
def spSelf : Sp := fun vs H Q _ => ∃ v, vs = [v] ∧ ∀ l, H l = none → Q (.ref l) (upd H l (.lst [v]))
theorem ok_is_atoms (T : Txt K mg A) : FnOk P w K mg base CX0 1 A.f_c_Is_atoms A.d_c_Is_atoms ["self"] spSelf := by
 refine T.F_c_Is_atoms.ok sc_c_Is_atoms (fun vs H Q E h => ?_) (fun cdv A0 outer s H vs Q E hr h => ?_)
 · obtain ⟨v, rfl, _⟩ := h
   rfl
 obtain ⟨v, rfl, q⟩ := h
 refine ⟨_, (zH (zY (zQ (zA (pv 0) zC)))), ?_⟩
 exact ⟨_, rfl, (by show 1 ≤ sizeLine; decide), fun l hl => q l hl⟩
theorem ok_cmp_atoms (T : Txt K mg A) : FnOk P w K mg base CX0 1 A.f_c_Compare_atoms A.d_c_Compare_atoms ["self"] spSelf := by
 refine T.F_c_Compare_atoms.ok sc_c_Compare_atoms (fun vs H Q E h => ?_) (fun cdv A0 outer s H vs Q E hr h => ?_)
 · obtain ⟨v, rfl, _⟩ := h
   rfl
 obtain ⟨v, rfl, q⟩ := h
 refine ⟨_, (zH (zY (zQ (zA (pv 0) zC)))), ?_⟩
 exact ⟨_, rfl, (by show 1 ≤ sizeLine; decide), fun l hl => q l hl⟩
def JAt (T : Txt K mg A) : MethJ P w K mg base CX0 2 A.c_Is "atoms" := ⟨_, _, _, _, [], [], T.cl_Is, T.me_Is_atoms, (ok_is_atoms T).mono (by decide), T.b_c_Is_atoms, .nil⟩
def JAc (T : Txt K mg A) : MethJ P w K mg base CX0 2 A.c_Compare "atoms" := ⟨_, _, _, _, [], [], T.cl_Compare, T.me_Compare_atoms, (ok_cmp_atoms T).mono (by decide), T.b_c_Compare_atoms, .nil⟩
theorem ok_atoms_of (T : Txt K mg A) : FnOk P w K mg base CX0 3 A.f_atoms_of A.d_atoms_of ["saying"] (spAtoms A) := by
 refine T.F_atoms_of.ok sc_atoms_of (fun vs H Q E h => ?_) (fun cdv A0 outer s H vs Q E hr h => ?_)
 · obtain ⟨v, o, rfl, _⟩ := h
   rfl
 obtain ⟨v, o, rfl, hS, q⟩ := h
 refine ⟨_, (zH (zY (pe_ifExp (yC op_isN (pv 0) pe_non (yJ _)) (zQ zC) (pe_methG0 (CX := CX0) (k := 2) (hr.mono (by first | decide | omega)) yB (pv 0))))), ?_⟩
 cases o with
 | none =>
   cases (show v = .non from hS)
   exact ⟨_, rfl, rfl, _, rfl, iteT ⟨(by show 0 ≤ sizeLine; decide), fun l hl => q l _ (zD hl _) zB⟩⟩
 | some z =>
   obtain ⟨s', rfl, h1⟩ := hS
   cases z with
   | is z b =>
     obtain ⟨ds, h1⟩ := h1
     exact ⟨_, rfl, rfl, _, rfl, iteF ⟨_, rfl, s', _, ds, _, JAt T, rfl, h1, rfl, _, rfl, fun l hl => q l _ (zD hl _) zB⟩⟩
   | cmp z n =>
     obtain ⟨ds, h1⟩ := h1
     exact ⟨_, rfl, rfl, _, rfl, iteF ⟨_, rfl, s', _, ds, _, JAc T, rfl, h1, rfl, _, rfl, fun l hl => q l _ (zD hl _) zB⟩⟩
end
end K40
set_option maxHeartbeats 4000000
namespace K40
open PySem L2
seal PE PT PW PA PS PSs PG PGs PI PO PSet OpR UnR CallR TruR IxR SlR PC PPs
local macro_rules | `(tactic| walk_at "rd1") => `(tactic| first
 | (refine And.intro rfl ?_)
 | (refine And.intro (by assumption) ?_)
 | (refine And.intro (fun _ e => e) ?_)
 | (refine And.intro (TyOf.str _) ?_) | (refine And.intro (TyOf.int _) ?_) | (refine And.intro (TyOf.bl _) ?_) | (refine And.intro TyOf.non ?_)
 | (refine iteT ?_) | (refine iteF ?_)
 | (apply Exists.intro))
local macro_rules | `(tactic| walk_at "rd") => `(tactic| repeat (walk_at "rd1"))
def cls (A : Adr) : Fc → Addr
 | .tw => A.c_Twice
 | .un => A.c_Unknown
 | .wr => A.c_WrongKind
 | .nw => A.c_NoWay
 | .rg => A.c_Ring
 | .re => A.c_OutOfReach
 | .no => A.c_Twice
def XR (A : Adr) (H : Hp) (E : XK) (f : Flt) : Prop := ∀ dx H', Same H H' → (f.1 ≠ .rg → H' dx = some (.xd [("name", .str f.2)])) → E (.ref (cls A f.1)) (some dx) H'
theorem XR.same {A : Adr} {H H' : Hp} {E : XK} {f : Flt} (s : Same H H') (h : XR A H E f) : XR A H' E f := fun dx G s2 h2 => h dx G (s.trans s2) h2
theorem XR.of {A : Adr} {H : Hp} {E : XK} {f : Flt} (h : XR A H E f) (n : f.1 ≠ .rg) : ∀ dx H', Same H H' → H' dx = some (.xd [("name", .str f.2)]) → E (.ref (cls A f.1)) (some dx) H' := fun dx H' s h2 => h dx H' s fun _ => h2
theorem hd_of {α : Type} {xs : List (List α)} {i : Nat} {f : α} {r : List α} (h0 : (xs.take i).flatten = []) (hx : xs[i]? = some (f :: r)) : ∃ r', xs.flatten = f :: r' := by
 have hi := (List.getElem?_eq_some_iff.mp hx).1
 have e : xs = xs.take i ++ (f :: r) :: xs.drop (i + 1) := by
   have := List.take_append_drop i xs
   rw [List.drop_eq_getElem_cons hi, (List.getElem?_eq_some_iff.mp hx).2] at this
   exact this.symm
 rw [e, List.flatten_append, h0]
 exact ⟨_, rfl⟩
theorem nil_of {α : Type} {xs : List (List α)} {i : Nat} (h0 : (xs.take i).flatten = []) (hx : xs[i]? = some []) : (xs.take (i + 1)).flatten = [] := by
 rw [yM hx, List.flatten_append, h0]; rfl
def atFl (qs : List Str) : Option At → List Flt
 | none => []
 | some (.is z _) => if z ∈ qs then [] else [(.un, z)]
 | some (.cmp z _) => if z ∈ qs then [(.wr, z)] else [(.un, z)]
def ptF (qs tn : List Str) (p : Part) : List Flt := match p.2 with
 | none => []
 | some z => if z ∈ qs ∨ z ∈ tn then [] else [(.un, z)]
def ptFl (qs tn : List Str) (ps : List Part) : List Flt := (ps.map (ptF qs tn)).flatten
def spFitY : Sp := fun vs H Q _ => ∃ (p : V) (b : Bool), vs = [p, .bl b] ∧ Q (.bl true) H
def spAnsY : Sp := fun vs H Q _ => ∃ (p : V) (b : Bool), vs = [p, .str (wd b)] ∧ Q (.bl b) H
def spRankY : Sp := fun vs H Q _ => ∃ (p : V) (b : Bool), vs = [p, .bl b] ∧ ∀ n, Q (.int n) H
def spIsS (A : Adr) : Sp := fun vs H Q _ => ∃ (s ds : Addr) (z : Str) (b : Bool) (d : Addr) (kvs : List (Key × V)) (kd dk : Addr) (fs : YFs), vs = [.ref s, .ref d] ∧ H s = some (oIs A ds (.str z) (.str (wd b)) .non) ∧ H d = some (.dK kvs) ∧ valV kvs (.inr z) = some (.ref kd) ∧ H kd = some (.ins A.c_YesNo dk fs.1) ∧ ∀ v H', Same H H' → Q v H'
def spCmS (A : Adr) : Sp := fun vs H _ E => ∃ (s ds : Addr) (z : Str) (n : Int) (d : Addr) (kvs : List (Key × V)) (kd dk : Addr) (fs : YFs), vs = [.ref s, .ref d] ∧ H s = some (oCm A ds (.str z) (.str zG) (.int n)) ∧ H d = some (.dK kvs) ∧ valV kvs (.inr z) = some (.ref kd) ∧ H kd = some (.ins A.c_YesNo dk fs.1) ∧ z.length ≤ 100 ∧ XR A H E (.wr, z)
def KD (A : Adr) (H : Hp) (kvs : List (Key × V)) (qs : List Str) : Prop := (∀ z v, valV kvs (.inr z) = some v → ∃ (kd dk : Addr) (fs : YFs), v = .ref kd ∧ H kd = some (.ins A.c_YesNo dk fs.1)) ∧ ∀ z, (valV kvs (.inr z)).isSome = decide (z ∈ qs)
theorem KD.same {A : Adr} {H H' : Hp} (s : Same H H') {kvs : List (Key × V)} {qs : List Str} (h : KD A H kvs qs) : KD A H' kvs qs := ⟨fun z v hv => let ⟨kd, dk, fs, e, h1⟩ := h.1 z v hv; ⟨kd, dk, fs, e, s _ _ h1⟩, h.2⟩
def spLAt (A : Adr) : Sp := fun vs H Q E => ∃ (v : V) (o : Option At) (d : Addr) (kvs : List (Key × V)) (dt : Addr) (kt : List (Key × V)) (qs tn : List Str), vs = [v, .ref d, .ref dt] ∧ SyR A H v o ∧ H d = some (.dK kvs) ∧ KD A H kvs qs ∧ H dt = some (.dK kt) ∧ (∀ z, (valV kt (.inr z)).isSome = decide (z ∈ tn)) ∧ (∀ a, o = some a → a.nm ∉ tn ∧ a.nm.length ≤ 100) ∧ (atFl qs o = [] → ∀ H', Same H H' → Q .non H') ∧ ∀ f r, atFl qs o = f :: r → XR A H E f
def spLPs (A : Adr) : Sp := fun vs H Q E => ∃ (l d : Addr) (kvs : List (Key × V)) (dt : Addr) (kt : List (Key × V)) (qs tn : List Str) (ps : List Part), vs = [.ref l, .ref d, .ref dt] ∧ PsR H l ps ∧ H d = some (.dK kvs) ∧ KD A H kvs qs ∧ H dt = some (.dK kt) ∧ (∀ z, (valV kt (.inr z)).isSome = decide (z ∈ tn)) ∧ (∀ p ∈ ps, ∀ z, p.2 = some z → z.length ≤ 100) ∧ (ptFl qs tn ps = [] → Q .non H) ∧ ∀ f r, ptFl qs tn ps = f :: r → XR A H E f
section
variable {P : Program} {w : World} {K : W.Frag} {mg : Str → Option Value} {base : Heap} {A : Adr}
theorem ok_yfits (T : Txt K mg A) : FnOk P w K mg base CX0 1 A.f_c_YesNo_fits A.d_c_YesNo_fits ["self", "thing"] spFitY := by
 refine T.F_c_YesNo_fits.ok sc_c_YesNo_fits (fun vs H Q E h => ?_) (fun cdv A0 outer s H vs Q E hr h => ?_)
 · obtain ⟨p, b, rfl, _⟩ := h
   rfl
 obtain ⟨p, b, rfl, q⟩ := h
 exact ⟨_, (zH (zY (yA yK (by rfl) T.n_isinstance Bt.isinstance (zA (pv 1) (zA (pe_bltn (v := .ty "bool") rfl T.n_bool Bt.bool rfl) zC))))), _, rfl, _, _, _, _, rfl, rfl, .old (.bl _), T.i_bool_bool, q⟩
theorem ok_yans (T : Txt K mg A) : FnOk P w K mg base CX0 1 A.f_c_YesNo_answer_of A.d_c_YesNo_answer_of ["self", "text"] spAnsY := by
 refine T.F_c_YesNo_answer_of.ok sc_c_YesNo_answer_of (fun vs H Q E h => ?_) (fun cdv A0 outer s H vs Q E hr h => ?_)
 · obtain ⟨p, b, rfl, _⟩ := h
   rfl
 obtain ⟨p, b, rfl, q⟩ := h
 refine ⟨_, (zH (zY (pe_gget rfl T.m_WRITTEN_TRUTHS T.t_WRITTEN_TRUTHS (pv 1) ⟨rfl, rfl, rfl, rfl⟩))), _, rfl, wd b, rfl, ?_⟩
 rw [show lookB [("yes", true), ("no", false)] (wd b) = .bl b by cases b <;> decide +kernel]
 exact q
theorem ok_yrank (T : Txt K mg A) : FnOk P w K mg base CX0 1 A.f_c_YesNo_rank A.d_c_YesNo_rank ["self", "answer"] spRankY := by
 refine T.F_c_YesNo_rank.ok sc_c_YesNo_rank (fun vs H Q E h => ?_) (fun cdv A0 outer s H vs Q E hr h => ?_)
 · obtain ⟨p, b, rfl, _⟩ := h
   rfl
 obtain ⟨p, b, rfl, q⟩ := h
 refine ⟨_, (zH (zY (pe_ifExp (yY (pv 1)) zJ zJ))), ?_⟩
 cases b
 · exact ⟨_, rfl, _, rfl, iteF (q _)⟩
 · exact ⟨_, rfl, _, rfl, iteT (q _)⟩
def JFi (T : Txt K mg A) : MethJ P w K mg base CX0 1 A.c_YesNo "fits" := ⟨_, _, _, _, [], [], T.cl_YesNo, T.me_YesNo_fits, ok_yfits T, T.b_c_YesNo_fits, .nil⟩
def JAn (T : Txt K mg A) : MethJ P w K mg base CX0 1 A.c_YesNo "answer_of" := ⟨_, _, _, _, [], [], T.cl_YesNo, T.me_YesNo_answer_of, ok_yans T, T.b_c_YesNo_answer_of, .nil⟩
def JRa (T : Txt K mg A) : MethJ P w K mg base CX0 1 A.c_YesNo "rank" := ⟨_, _, _, _, [], [], T.cl_YesNo, T.me_YesNo_rank, ok_yrank T, T.b_c_YesNo_rank, .nil⟩
theorem kit_yp (T : Txt K mg A) : W.kitAny K (.ref A.c_YesNo) [.ref A.c_YesNo, .ref A.c_Pick] = some true := by
 show (match W.kitOne K (.ref A.c_YesNo) (.ref A.c_YesNo) with | some true => some true | some false => W.kitAny K (.ref A.c_YesNo) [.ref A.c_Pick] | none => none) = _
 rw [T.kr_YesNo_YesNo]
theorem ok_is_settled (T : Txt K mg A) : FnOk P w K mg base (CXW P w) 3 A.f_c_Is_settled A.d_c_Is_settled ["self", "kinds"] (spIsS A) := by
 have G_c_Is___init := ok_is_init (P := P) (w := w) (base := base) T
 refine T.F_c_Is_settled.okX sc_c_Is_settled (fun vs H Q E h => ?_) (fun cdv A0 outer s H vs Q E hr h => ?_)
 · obtain ⟨s', ds, z, b, d, kvs, kd, dk, fs, rfl, _⟩ := h
   rfl
 obtain ⟨s', ds, z, b, d, kvs, kd, dk, fs, rfl, hs, hd, hv, hk, q⟩ := h
 refine ⟨_, (zF (zX (i := 2) sc_c_Is_settled.nd rfl (by first | exact Or.inl rfl | exact Or.inr rfl) (pe_dget1 (xN hr) (pv 1) (zO (pv 0) rfl) ⟨rfl, rfl, rfl, rfl⟩))
     (zF (yN (pt_not (yY (yA call_isiT (by rfl) T.n_isinstance Bt.isinstance (zA (pv 2) (zA (zM (zA (xL rfl T.v_YesNo) (zA (xL rfl T.v_Pick) zC))) zC))))) (zH ps_no) zW)
     (zF (zX (i := 3) sc_c_Is_settled.nd rfl (by first | exact Or.inl rfl | exact Or.inr rfl) (xH (CX := CX0) (k := 1) (hr.mono (by first | decide | omega)) yB (pv 2) (zA (zO (pv 0) rfl) zC)))
     (zF (yN (pt_not (yY (xH (CX := CX0) (k := 1) (hr.mono (by first | decide | omega)) yB (pv 2) (zA (pv 3) zC)))) (zH ps_no) zW)
     (zH (zY (yZ T.mk_Is G_c_Is___init (hr.mono (by first | decide | omega)) rfl T.m_Is T.b_c_Is___init .nil yB (zA (zO (pv 0) rfl) (zA (zO (pv 0) rfl) (zA (xH (CX := CX0) (k := 1) (hr.mono (by first | decide | omega)) yB (pv 2) (zA (pv 3) zC)) zC)))))))))), ?_⟩
 have hget := DGet.k (k := .inr z) hd
 rw [hv] at hget
 refine ⟨_, rfl, d, rfl, .inl ⟨kvs, .inl hd⟩, _, rfl, s', _, ds, _, _, rfl, hs, T.cl_Is, T.no_Is_name, rfl, _, hget, ?_⟩
 refine ⟨_, rfl, (by show 2 ≤ sizeLine; decide), fun t1 ht1 => ?_⟩
 have s1 := zD ht1 (.tup [.ref A.c_YesNo, .ref A.c_Pick])
 have hk1 := s1 _ _ hk
 refine ⟨_, t1, _, _, _, rfl, zB, rfl, .old (T.ty_YesNo _ kd dk _ hk1), kit_yp T, _, rfl, iteF ?_⟩
 have hs1 := s1 _ _ hs
 generalize upd H t1 (.tup [.ref A.c_YesNo, .ref A.c_Pick]) = H1 at s1 hk1 hs1
 refine ⟨_, rfl, kd, _, dk, _, JAn T, rfl, hk1, fs.2.2.1, _, rfl, s', _, ds, _, _, rfl, hs1, T.cl_Is, T.no_Is_word, rfl, _, b, rfl, ?_⟩
 refine ⟨_, rfl, kd, _, dk, _, JFi T, rfl, hk1, fs.2.1, _, rfl, _, _, rfl, _, rfl, iteF ?_⟩
 refine ⟨_, rfl, s', _, ds, _, _, rfl, hs1, T.cl_Is, T.no_Is_name, rfl, _, rfl, s', _, ds, _, _, rfl, hs1, T.cl_Is, T.no_Is_word, rfl, _, rfl, kd, _, dk, _, JRa T, rfl, hk1, fs.2.2.2, _, rfl, _, b, rfl, fun n x dx nx nd ne => ?_⟩
 refine ⟨x, dx, _, _, _, rfl, zB, rfl, ?_⟩
 rw [yO]
 exact q _ _ (s1.trans (yL nx nd _))
def JSe (T : Txt K mg A) : MethJ P w K mg base (CXW P w) 5 A.c_Is "settled" := ⟨_, _, _, _, [], [], T.cl_Is, T.me_Is_settled, (ok_is_settled T).mono (by decide), T.b_c_Is_settled, .nil⟩
theorem kit_wn (T : Txt K mg A) : W.kitAny K (.ref A.c_YesNo) [.ref A.c_Whole, .ref A.c_Names] = some false := by
 show (match W.kitOne K (.ref A.c_YesNo) (.ref A.c_Whole) with | some true => some true | some false => W.kitAny K (.ref A.c_YesNo) [.ref A.c_Names] | none => none) = _
 rw [T.kr_YesNo_Whole]
 show (match W.kitOne K (.ref A.c_YesNo) (.ref A.c_Names) with | some true => some true | some false => W.kitAny K (.ref A.c_YesNo) [] | none => none) = _
 rw [T.kr_YesNo_Names]
 rfl
theorem ok_cmp_settled (T : Txt K mg A) : FnOk P w K mg base (CXW P w) 3 A.f_c_Compare_settled A.d_c_Compare_settled ["self", "kinds"] (spCmS A) := by
 have G_c_WrongKind___init := ok_wr_init (P := P) (w := w) (base := base) T
 have G_c_Compare___init := ok_cmp_init (P := P) (w := w) (base := base) T
 refine T.F_c_Compare_settled.okX sc_c_Compare_settled (fun vs H Q E h => ?_) (fun cdv A0 outer s H vs Q E hr h => ?_)
 · obtain ⟨s', ds, z, n, d, kvs, kd, dk, fs, rfl, _⟩ := h
   rfl
 obtain ⟨s', ds, z, n, d, kvs, kd, dk, fs, rfl, hs, hd, hv, hk, hz, q⟩ := h
 refine ⟨_, (zF (yN (PW.pt (pw_and (yC (op_in_d (xN hr)) (zO (pv 0) rfl) (pv 1) (by rfl)) (pw_and1 (pt_not (yY (yA call_isiT (by rfl) T.n_isinstance Bt.isinstance (zA (pe_dget (xN hr) (pv 1) (zO (pv 0) rfl) (fun _ _ => rfl)) (zA (zM (zA (xL rfl T.v_Whole) (zA (xL rfl T.v_Names) zC))) zC)))))))) (zH (ps_raiseI T.mx_WrongKind G_c_WrongKind___init (hr.mono (by first | decide | omega)) T.b_c_WrongKind___init T.m_WrongKind (zA (zO (pv 0) rfl) zC) rfl)) zW)
     (zH (zY (yZ T.mk_Compare G_c_Compare___init (hr.mono (by first | decide | omega)) rfl T.m_Compare T.b_c_Compare___init .nil yB (zA (zO (pv 0) rfl) (zA (zO (pv 0) rfl) (zA (zO (pv 0) rfl) zC))))))), ?_⟩
 have hget := DGet.k (k := .inr z) hd
 rw [hv] at hget
 refine ⟨_, rfl, s', _, ds, _, _, rfl, hs, T.cl_Compare, T.no_Compare_name, rfl, _, rfl, d, _, rfl, hget, _, rfl, iteT ?_⟩
 refine ⟨_, rfl, _, rfl, s', _, ds, _, _, rfl, hs, T.cl_Compare, T.no_Compare_name, rfl, d, _, rfl, hget, (by show 2 ≤ sizeLine; decide), fun t1 ht1 => ?_⟩
 have s1 := zD ht1 (.tup [.ref A.c_Whole, .ref A.c_Names])
 refine ⟨_, t1, _, _, _, rfl, zB, rfl, .old (T.ty_YesNo _ kd dk _ (s1 _ _ hk)), kit_wn T, _, rfl, iteT ?_⟩
 refine ⟨_, rfl, s', _, ds, _, _, rfl, s1 _ _ hs, T.cl_Compare, T.no_Compare_name, rfl, (by show 1 ≤ sizeLine; decide), fun e he => raised he (by omega) fun dx H2 s2 h2 => ?_⟩
 exact q dx H2 (s1.trans s2) fun _ => h2
def JSc (T : Txt K mg A) : MethJ P w K mg base (CXW P w) 5 A.c_Compare "settled" := ⟨_, _, _, _, [], [], T.cl_Compare, T.me_Compare_settled, (ok_cmp_settled T).mono (by decide), T.b_c_Compare_settled, .nil⟩
theorem ok_look_at_atoms (T : Txt K mg A) : FnOk P w K mg base (CXW P w) 6 A.f_look_at_atoms A.d_look_at_atoms ["saying", "kinds", "totals"] (spLAt A) := by
 have G_atoms_of := ok_atoms_of (P := P) (w := w) (base := base) T
 have G_c_Unknown___init := ok_un_init (P := P) (w := w) (base := base) T
 refine T.F_look_at_atoms.okX sc_look_at_atoms (fun vs H Q E h => ?_) (fun cdv A0 outer s H vs Q E hr h => ?_)
 · obtain ⟨v, o, d, kvs, dt, kt, qs, tn, rfl, _⟩ := h
   rfl
 obtain ⟨v, o, d, kvs, dt, kt, qs, tn, rfl, hS, hd, hK, hdt, hkt, ho, q1, q2⟩ := h
 refine ⟨_, (zH (PS.inL (ps_forL (yR (zV G_atoms_of (hr.mono (by first | decide | omega)) rfl T.m_atoms_of T.k_atoms_of T.b_atoms_of .nil yB (zA (pv 0) zC))) (zS (i := 3) sc_look_at_atoms.nd rfl (by first | exact Or.inl rfl | exact Or.inr rfl)) (zF (yN (PW.pt (pw_and (yC (op_notIn_d (xN hr)) (zO (pv 3) rfl) (pv 1) (by rfl)) (pw_and1 (yC (op_notIn_d (xN hr)) (zO (pv 3) rfl) (pv 2) (by rfl))))) (zH (ps_raiseL T.mx_Unknown G_c_Unknown___init (hr.mono (by first | decide | omega)) T.b_c_Unknown___init T.m_Unknown (zA (zO (pv 3) rfl) zC) rfl)) zW)
     (zH (yI (xH (CX := CXW P w) (k := 5) (hr.mono (by first | decide | omega)) passL (pv 3) (zA (pv 1) zC)))))))), ?_⟩
 refine ⟨_, rfl, v, o, rfl, hS, fun l H1 s1 hl => ⟨l, rfl, ⟨_, SqL.of hl⟩, ?_⟩⟩
 cases o with
 | none =>
   refine yQ (xs := []) (fun i σ H' => H1 = H') rfl (fun i σ H' _ hw => hw ▸ SqL.of hl) (fun i x σ H' hx _ => by simp at hx) (fun σ H' hw => ?_)
   subst hw
   exact q1 rfl _ s1
 | some at' =>
   obtain ⟨htn, hlen⟩ := ho at' rfl
   refine yQ (xs := [v]) (fun i σ H' => Same H1 H' ∧ (0 < i → atFl qs (some at') = []) ∧ ∃ u, σ = [some v, some (.ref d), some (.ref dt), u]) ⟨Same.refl _, (fun h => by omega), _, rfl⟩ (fun i σ H' _ hw => SqL.of (hw.1 _ _ hl)) (fun i x σ H' hx hw => ?_) (fun σ H' hw => q1 (hw.2.1 (by show 0 < 1; decide)) _ (s1.trans hw.1))
   obtain ⟨s2, _, u, rfl⟩ := hw
   obtain ⟨rfl, rfl⟩ : i = 0 ∧ x = v := by
     cases i with
     | zero => cases hx; exact ⟨rfl, rfl⟩
     | succ i => simp at hx
   obtain ⟨s', rfl, hs⟩ := hS
   have s3 := s1.trans s2
   cases at' with
   | is z b =>
     obtain ⟨ds, hs⟩ := hs
     have hget := DGet.k (k := .inr z) (s3 _ _ hd)
     have hq := hK.2 z
     cases hv : valV kvs (.inr z) with
     | none =>
       rw [hv] at hget hq
       have hz : z ∉ qs := of_decide_eq_false hq.symm
       have hgt := DGet.k (k := .inr z) (s3 _ _ hdt)
       have hkz := hkt z
       rw [show decide (z ∈ tn) = false from decide_eq_false htn] at hkz
       refine ⟨_, rfl, s', _, ds, _, _, rfl, s3 _ _ hs, T.cl_Is, T.no_Is_name, rfl, _, rfl, d, _, rfl, hget, _, rfl, iteT ?_⟩
       refine ⟨_, rfl, s', _, ds, _, _, rfl, s3 _ _ hs, T.cl_Is, T.no_Is_name, rfl, _, rfl, dt, _, rfl, hgt, _, rfl, ?_⟩
       rw [show (!(valV kt (.inr z)).isSome) = true by rw [hkz]; rfl]
       refine iteT ?_
       refine ⟨_, rfl, s', _, ds, _, _, rfl, s3 _ _ hs, T.cl_Is, T.no_Is_name, rfl, (by show 1 ≤ sizeLine; decide), fun e he => raised he (by have : z.length ≤ 100 := hlen; omega) fun dx H2 s4 h2 => ?_⟩
       exact q2 (.un, z) [] (by show (if z ∈ qs then [] else [(Fc.un, z)]) = _; rw [if_neg hz]) dx H2 (s3.trans s4) fun _ => h2
     | some xv =>
       rw [hv] at hget hq
       have hz : z ∈ qs := of_decide_eq_true hq.symm
       obtain ⟨kd, dk, fs, rfl, hkd⟩ := hK.1 z xv hv
       refine ⟨_, rfl, s', _, ds, _, _, rfl, s3 _ _ hs, T.cl_Is, T.no_Is_name, rfl, _, rfl, d, _, rfl, hget, _, rfl, iteF (iteF ?_)⟩
       exact ⟨_, rfl, s', _, ds, _, JSe T, rfl, s3 _ _ hs, rfl, _, rfl, s', ds, z, b, d, kvs, kd, dk, fs, rfl, s3 _ _ hs, s3 _ _ hd, hv, s3 _ _ hkd, fun v H' s4 => ⟨s2.trans s4, fun _ => (by show (if z ∈ qs then [] else [(Fc.un, z)]) = _; rw [if_pos hz]), _, rfl⟩⟩
   | cmp z n =>
     obtain ⟨ds, hs⟩ := hs
     have hget := DGet.k (k := .inr z) (s3 _ _ hd)
     have hq := hK.2 z
     cases hv : valV kvs (.inr z) with
     | none =>
       rw [hv] at hget hq
       have hz : z ∉ qs := of_decide_eq_false hq.symm
       have hgt := DGet.k (k := .inr z) (s3 _ _ hdt)
       have hkz := hkt z
       rw [show decide (z ∈ tn) = false from decide_eq_false htn] at hkz
       refine ⟨_, rfl, s', _, ds, _, _, rfl, s3 _ _ hs, T.cl_Compare, T.no_Compare_name, rfl, _, rfl, d, _, rfl, hget, _, rfl, iteT ?_⟩
       refine ⟨_, rfl, s', _, ds, _, _, rfl, s3 _ _ hs, T.cl_Compare, T.no_Compare_name, rfl, _, rfl, dt, _, rfl, hgt, _, rfl, ?_⟩
       rw [show (!(valV kt (.inr z)).isSome) = true by rw [hkz]; rfl]
       refine iteT ?_
       refine ⟨_, rfl, s', _, ds, _, _, rfl, s3 _ _ hs, T.cl_Compare, T.no_Compare_name, rfl, (by show 1 ≤ sizeLine; decide), fun e he => raised he (by have : z.length ≤ 100 := hlen; omega) fun dx H2 s4 h2 => ?_⟩
       exact q2 (.un, z) [] (by show (if z ∈ qs then [(Fc.wr, z)] else [(Fc.un, z)]) = _; rw [if_neg hz]) dx H2 (s3.trans s4) fun _ => h2
     | some xv =>
       rw [hv] at hget hq
       have hz : z ∈ qs := of_decide_eq_true hq.symm
       obtain ⟨kd, dk, fs, rfl, hkd⟩ := hK.1 z xv hv
       refine ⟨_, rfl, s', _, ds, _, _, rfl, s3 _ _ hs, T.cl_Compare, T.no_Compare_name, rfl, _, rfl, d, _, rfl, hget, _, rfl, iteF (iteF ?_)⟩
       exact ⟨_, rfl, s', _, ds, _, JSc T, rfl, s3 _ _ hs, rfl, _, rfl, s', ds, z, n, d, kvs, kd, dk, fs, rfl, s3 _ _ hs, s3 _ _ hd, hv, s3 _ _ hkd, hlen, (q2 (.wr, z) [] (by show (if z ∈ qs then [(Fc.wr, z)] else [(Fc.un, z)]) = _; rw [if_pos hz])).same s3⟩
theorem ok_look_at_parts (T : Txt K mg A) : FnOk P w K mg base (CXW P w) 3 A.f_look_at_parts A.d_look_at_parts ["parts", "kinds", "totals"] (spLPs A) := by
 have G_c_Unknown___init := ok_un_init (P := P) (w := w) (base := base) T
 have G_c_WrongKind___init := ok_wr_init (P := P) (w := w) (base := base) T
 refine T.F_look_at_parts.okX sc_look_at_parts (fun vs H Q E h => ?_) (fun cdv A0 outer s H vs Q E hr h => ?_)
 · obtain ⟨l, d, kvs, dt, kt, qs, tn, ps, rfl, _⟩ := h
   rfl
 obtain ⟨l, dk, kk, dt, kt, qs, tn, ps, rfl, ⟨xs, hl, hp⟩, hk, hK, ht, hkt, hlen, q1, q2⟩ := h
 refine ⟨_, (zH (PS.inL (ps_forL (yR (pv 0)) (pg_tup rfl (yD (zS (i := 3) sc_look_at_parts.nd rfl (by first | exact Or.inl rfl | exact Or.inr rfl)) (yD (zS (i := 4) sc_look_at_parts.nd rfl (by first | exact Or.inl rfl | exact Or.inr rfl)) xI))) (zF (yN (PW.pt (pw_and (yC op_notN (pv 4) pe_non (yJ _)) (pw_and (yC (op_notInO (xN hr)) (pv 4) (pv 1) (by rfl)) (pw_and1 (yC (op_notInO (xN hr)) (pv 4) (pv 2) (by rfl)))))) (zH (ps_raiseL T.mx_Unknown G_c_Unknown___init (hr.mono (by first | decide | omega)) T.b_c_Unknown___init T.m_Unknown (zA (pv 4) zC) rfl)) zW)
     (zH (yN (PW.pt (pw_and (yC (op_inO (xN hr)) (pv 4) (pv 1) (by rfl)) (pw_and1 (yY (yA yK (by rfl) T.n_isinstance Bt.isinstance (zA (pe_dget (xN hr) (pv 1) (pv 4) (fun _ _ => rfl)) (zA (xL rfl T.v_Pick) zC))))))) (zH (ps_raiseL T.mx_WrongKind G_c_WrongKind___init (hr.mono (by first | decide | omega)) T.b_c_WrongKind___init T.m_WrongKind (zA (pv 4) zC) rfl)) zW)))))), ?_⟩
 refine ⟨_, rfl, l, rfl, ⟨_, SqL.of hl⟩, ?_⟩
 refine yQ (xs := xs) (fun i σ H' => ∃ u v, σ = [some (.ref l), some (.ref dk), some (.ref dt), u, v] ∧ H = H' ∧ ((ps.map (ptF qs tn)).take i).flatten = []) ⟨_, _, rfl, rfl, rfl⟩ (fun i σ H' _ hw => hw.elim fun _ z => z.elim fun _ z => z.2.1 ▸ SqL.of hl) (fun i x σ H' hx hw => ?_) (fun σ H' hw => ?_)
 · obtain ⟨u, v, rfl, rfl, hn⟩ := hw
   obtain ⟨p, hpi, t, rfl, htt⟩ := yE hp hx
   have hmi : (ps.map (ptF qs tn))[i]? = some (ptF qs tn p) := by rw [List.getElem?_map, hpi]; rfl
   refine ⟨t, _, rfl, SqT.of htt, rfl, _, _, rfl, _, _, rfl, rfl, ?_⟩
   dsimp only [gName, List.set_cons_succ, List.set_cons_zero]
   refine seq_mid (fun σ' G => H = G ∧ ptF qs tn p = [] ∧ σ' = [some (.ref l), some (.ref dk), some (.ref dt), some (.int p.1), some (nv p.2)]) (fun σ' G hR => ?_) (fun hk' => ?_)
   · obtain ⟨rfl, hf, rfl⟩ := hR
     rw [hf] at hmi
     have hn' := nil_of hn hmi
     cases hq : p.2 with
     | none =>
       refine ⟨_, rfl, _, rfl, .inr ⟨dk, _, rfl, rfl, .inl hk, _, rfl, iteF (iteF ?_)⟩⟩
       exact ⟨_, _, rfl, rfl, hn'⟩
     | some z =>
       have hget := DGet.k (k := .inr z) hk
       cases hv : valV kk (.inr z) with
       | none =>
         rw [hv] at hget
         exact ⟨_, rfl, _, rfl, .inl ⟨dk, _, rfl, hget, _, rfl, iteF (iteF ⟨_, _, rfl, rfl, hn'⟩)⟩⟩
       | some xv =>
         obtain ⟨kd, dq, fs, rfl, hkd⟩ := hK.1 z xv hv
         rw [hv] at hget
         refine ⟨_, rfl, _, rfl, .inl ⟨dk, _, rfl, hget, _, rfl, iteT ⟨_, rfl, _, rfl, dk, _, rfl, hget, ?_⟩⟩⟩
         exact ⟨_, _, _, _, rfl, rfl, .old (T.ty_YesNo H kd dq _ hkd), T.kr_YesNo_Pick, _, rfl, iteF ⟨_, _, rfl, rfl, hn'⟩⟩
   · cases hq : p.2 with
     | none =>
       refine ⟨_, rfl, rfl, _, rfl, iteF (iteF ?_)⟩
       exact hk' _ _ ⟨rfl, by unfold ptF; rw [hq], by rw [hq]⟩
     | some z =>
       have hget := DGet.k (k := .inr z) hk
       have hz := hK.2 z
       have hzt := hkt z
       refine ⟨_, rfl, rfl, _, rfl, iteT ⟨_, rfl, _, rfl, .inl ⟨dk, _, rfl, hget, _, rfl, ?_⟩⟩⟩
       rw [hz]
       by_cases c : z ∈ qs
       · rw [decide_eq_true c]
         exact iteF (iteF (hk' _ _ ⟨rfl, by unfold ptF; rw [hq]; exact if_pos (.inl c), by rw [hq]⟩))
       · rw [decide_eq_false c]
         refine iteT ⟨_, rfl, _, rfl, .inl ⟨dt, _, rfl, DGet.k (k := .inr z) ht, _, rfl, ?_⟩⟩
         rw [hzt]
         by_cases c2 : z ∈ tn
         · rw [decide_eq_true c2]
           exact iteF (hk' _ _ ⟨rfl, by unfold ptF; rw [hq]; exact if_pos (.inr c2), by rw [hq]⟩)
         · rw [decide_eq_false c2]
           refine iteT ⟨_, rfl, (by show 1 ≤ sizeLine; decide), fun e he => raised he (by have := hlen p (List.mem_of_getElem? hpi) z hq; omega) fun dx H2 s4 h2 => ?_⟩
           have hf : ptF qs tn p = [(.un, z)] := by unfold ptF; rw [hq]; exact if_neg (fun h => h.elim c c2)
           rw [hf] at hmi
           obtain ⟨r, hr'⟩ := hd_of hn hmi
           exact q2 _ r hr' dx H2 s4 fun _ => h2
 · obtain ⟨u, v, rfl, rfl, hn⟩ := hw
   rw [zL hp, ← List.length_map (as := ps) (f := ptF qs tn), List.take_length] at hn
   exact q1 hn
end
end K40
set_option maxHeartbeats 4000000
namespace K40
open PySem L2
seal PE PT PW PA PS PSs PG PGs PI PO PSet OpR UnR CallR TruR IxR SlR PC PPs
local macro_rules | `(tactic| walk_at "rd1") => `(tactic| first
 | (refine And.intro rfl ?_)
 | (refine And.intro (by assumption) ?_)
 | (refine And.intro (fun _ e => e) ?_)
 | (refine And.intro (TyOf.str _) ?_) | (refine And.intro (TyOf.int _) ?_) | (refine And.intro (TyOf.bl _) ?_) | (refine And.intro TyOf.non ?_)
 | (refine iteT ?_) | (refine iteF ?_)
 | (apply Exists.intro))
local macro_rules | `(tactic| walk_at "rd") => `(tactic| repeat (walk_at "rd1"))
def tgt (sh : List Sh) (s : Nat) : List Str := zE :: (sh.drop (s + 1)).map (·.nm)
def qsOf (sh : List Sh) : List Str := (allR sh).map (·.1)
def wyFl (qs tg : List Str) (y : Wy) : List Flt := if y.1 ∈ tg then atFl qs y.2 else [(.nw, y.1)]
def rwFl (qs : List Str) (t : Sh) : List Flt := (t.rows.map fun r => atFl qs r.2).flatten
def wsFl (qs : List Str) (sh : List Sh) (i : Nat) (t : Sh) : List Flt := (t.ways.map (wyFl qs (tgt sh i))).flatten
def shFl (qs : List Str) (sh : List Sh) (i : Nat) (t : Sh) : List Flt := rwFl qs t ++ wsFl qs sh i t
def shsFl (sh : List Sh) : List Flt := (sh.mapIdx (shFl (qsOf sh) sh)).flatten
def tsFl (sh : List Sh) (ts : List Tot) : List Flt := (ts.map fun t => ptFl (qsOf sh) (ts.map (·.1)) t.2).flatten
def nmFl (sh : List Sh) (ts : List Tot) : List Flt := shsFl sh ++ tsFl sh ts
theorem app_hd {α : Type} {l m : List α} {f : α} (h : ∃ r, l = f :: r) : ∃ r, l ++ m = f :: r := by obtain ⟨r, rfl⟩ := h; exact ⟨_, rfl⟩
theorem shs_hd {sh : List Sh} {i : Nat} {t : Sh} {f : Flt} (h0 : ((sh.mapIdx (shFl (qsOf sh) sh)).take i).flatten = []) (ht : sh[i]? = some t) (h : ∃ r, shFl (qsOf sh) sh i t = f :: r) (ts : List Tot) : ∃ r, nmFl sh ts = f :: r := by
 obtain ⟨r, hr⟩ := h
 exact app_hd (hd_of (r := r) h0 (by rw [List.getElem?_mapIdx, ht, ← hr]; rfl))
def GA (sh : List Sh) (ts : List Tot) : Prop := (∀ t ∈ sh, (∀ r ∈ t.rows, ∀ a, r.2 = some a → a.nm ∉ ts.map (·.1) ∧ a.nm.length ≤ 100) ∧ ∀ y ∈ t.ways, y.1.length ≤ 100 ∧ ∀ a, y.2 = some a → a.nm ∉ ts.map (·.1) ∧ a.nm.length ≤ 100) ∧ (ts.map (·.1)).Nodup ∧ ∀ t ∈ ts, ∀ p ∈ t.2, ∀ z, p.2 = some z → z.length ≤ 100
def spLN (A : Adr) : Sp := fun vs H Q E => ∃ a sh ts, vs = [.ref a] ∧ PaR A H a sh ts ∧ GP sh ts ∧ GA sh ts ∧ (nmFl sh ts = [] → ∀ H', Same H H' → Q .non H') ∧ ∀ f r, nmFl sh ts = f :: r → XR A H E f
theorem cutV_drop {l : List V} {j : Nat} (h : j ≤ l.length) : cutV l (some (j : Int)) none = l.drop j := by
 unfold cutV
 have e1 : HT.sIx l.length 0 (some (j : Int)) = j := by
   show (if (j : Int) < 0 then ((j : Int) + l.length).toNat else min (j : Int).toNat l.length) = _
   rw [if_neg (by omega)]; omega
 have e2 : HT.sIx l.length l.length none = l.length := rfl
 rw [e1, e2]
 exact List.take_of_length_le (by rw [List.length_drop]; exact Nat.le_refl _)
theorem paired_drop {α β : Type} {R : α → β → Prop} : ∀ {as : List α} {bs : List β} (i : Nat), Paired R as bs → Paired R (as.drop i) (bs.drop i)
 | _, _, 0, h => h
 | _, _, _ + 1, .nil => .nil
 | _, _, i + 1, .cons _ t => paired_drop i t
theorem inV_strs (z : Str) (ws : List Str) : inV (.str z) (ws.map V.str) = decide (z ∈ ws) := by
 unfold inV
 rw [List.any_map, Bool.eq_iff_iff, List.any_eq_true, decide_eq_true_iff]
 constructor
 · rintro ⟨y, hy, e⟩
   have : y = z := eq_of_beq e
   rw [← this]; exact hy
 · intro h; exact ⟨z, h, by show (z == z) = true; exact beq_self_eq_true z⟩
theorem strs_flat (ws : List Str) : (ws.map V.str).all flatV = true := List.all_eq_true.mpr fun x hx => by
 obtain ⟨p, _, rfl⟩ := List.mem_map.mp hx
 rfl
section
variable {P : Program} {w : World} {K : W.Frag} {mg : Str → Option Value} {base : Heap} {A : Adr}
theorem ok_look_at_names (T : Txt K mg A) : FnOk P w K mg base (CXW P w) 7 A.f_look_at_names A.d_look_at_names ["paper"] (spLN A) := by
 have G_kinds_of := ok_kinds_of (P := P) (w := w) (base := base) T
 have G_saying_of := ok_saying_of (P := P) (w := w) (base := base) T
 have G_look_at_atoms := ok_look_at_atoms (P := P) (w := w) (base := base) T
 have G_look_at_parts := ok_look_at_parts (P := P) (w := w) (base := base) T
 have G_c_NoWay___init := ok_nw_init (P := P) (w := w) (base := base) T
 refine T.F_look_at_names.okX sc_look_at_names (fun vs H Q E h => ?_) (fun cdv A0 outer s H vs Q E hr h => ?_)
 · obtain ⟨a, sh, ts, rfl, _⟩ := h
   rfl
 obtain ⟨a, sh, ts, rfl, hP, hG, hA, q1, q2⟩ := h
 refine ⟨_, (zF (zX (i := 1) sc_look_at_names.nd rfl (by first | exact Or.inl rfl | exact Or.inr rfl) (zV G_kinds_of (hr.mono (by first | decide | omega)) rfl T.m_kinds_of T.k_kinds_of T.b_kinds_of .nil yB (zA (pv 0) zC)))
     (zF (zX (i := 2) sc_look_at_names.nd rfl (by first | exact Or.inl rfl | exact Or.inr rfl) (yH (call_dict_pairs rfl) (by rfl) T.n_dict Bt.dict (zA (zO (pv 0) rfl) zC)))
     (zF (PS.inL (ps_forL (pi_enum rfl T.n_enumerate (zA (zO (pv 0) rfl) zC)) (pg_tup rfl (yD (zS (i := 3) sc_look_at_names.nd rfl (by first | exact Or.inl rfl | exact Or.inr rfl)) (yD (zS (i := 4) sc_look_at_names.nd rfl (by first | exact Or.inl rfl | exact Or.inr rfl)) xI))) (zF (yN (yC op_notN (zO (pv 4) rfl) pe_non (yJ _)) (zH (yI pe_no)) zW)
     (zF (ps_forL (yR (zO (pv 4) rfl)) (zS (i := 5) sc_look_at_names.nd rfl (by first | exact Or.inl rfl | exact Or.inr rfl)) (zH (yI (zV G_look_at_atoms (hr.mono (by first | decide | omega)) rfl T.m_look_at_atoms T.k_look_at_atoms T.b_look_at_atoms .nil passL (zA (zV G_saying_of (hr.mono (by first | decide | omega)) rfl T.m_saying_of T.k_saying_of T.b_saying_of .nil yB (zA (pv 5) zC)) (zA (pv 1) (zA (pv 2) zC)))))))
     (zF (zX (i := 6) sc_look_at_names.nd rfl (by first | exact Or.inl rfl | exact Or.inr rfl) (zU op_cat (zQ (zA zP zC)) (pe_compR (xF (x := "later") (M := ["paper", "kinds", "totals", "place", "sheet", "row", "targets", "target", "saying", "name", "parts"]) rfl (by rfl)) rfl (yR (pe_slice sl_list (zO (pv 0) rfl) (po_some (zU xR (pv 3) zJ)) po_none)) (fun _ _ _ _ => pe_eqv (by exact (zO (pv 0) rfl)) (by dsimp only [compCx] <;> rfl)))))
     (zH (ps_forL (yR (zO (pv 4) rfl)) (pg_tup rfl (yD (zS (i := 7) sc_look_at_names.nd rfl (by first | exact Or.inl rfl | exact Or.inr rfl)) (yD (zS (i := 8) sc_look_at_names.nd rfl (by first | exact Or.inl rfl | exact Or.inr rfl)) xI))) (zF (yN (yC op_notIn_seq (pv 7) (pv 6) (by rfl)) (zH (ps_raiseL T.mx_NoWay G_c_NoWay___init (hr.mono (by first | decide | omega)) T.b_c_NoWay___init T.m_NoWay (zA (pv 7) zC) rfl)) zW)
     (zH (yI (zV G_look_at_atoms (hr.mono (by first | decide | omega)) rfl T.m_look_at_atoms T.k_look_at_atoms T.b_look_at_atoms .nil passL (zA (pv 8) (zA (pv 1) (zA (pv 2) zC))))))))))))))
     (zH (PS.inL (ps_forL (yR (zO (pv 0) rfl)) (pg_tup rfl (yD (zS (i := 9) sc_look_at_names.nd rfl (by first | exact Or.inl rfl | exact Or.inr rfl)) (yD (zS (i := 10) sc_look_at_names.nd rfl (by first | exact Or.inl rfl | exact Or.inr rfl)) xI))) (zH (yI (zV G_look_at_parts (hr.mono (by first | decide | omega)) rfl T.m_look_at_parts T.k_look_at_parts T.b_look_at_parts .nil passL (zA (pv 10) (zA (pv 1) (zA (pv 2) zC)))))))))))), ?_⟩
 refine ⟨_, rfl, a, sh, ts, rfl, hP, hG, fun d kvs H1 s1 hd1 hK => ?_⟩
 have hKD : KD A H kvs (qsOf sh) := ⟨hK.2.1, hK.2.2⟩
 obtain ⟨dx, u, qa, qb, xs, p1, p2, p3, p8⟩ := hP
 have lxs := zL p3
 obtain ⟨tx, hx, hxt⟩ := p8.kp (.of s1)
 obtain ⟨rows, hpr, hrw⟩ := rows_mk hxt
 refine ⟨_, rfl, a, _, dx, _, _, rfl, s1 _ _ p1, T.cl_Paper, T.no_Paper_totals, rfl, qb, tx, rows, rfl, hx, hpr, fun dt hdt => ?_⟩
 rw [mkD_nd (rw_nd hrw hA.2.1)]
 have s2 := s1.trans (zD hdt (.dK rows))
 have ht2 : (upd H1 dt (.dK rows)) dt = some (.dK rows) := zB
 have hd2 := zD hdt (.dK rows) _ _ hd1
 have hx2 := zD hdt (.dK rows) _ _ hx
 have hxt2 := zN hxt fun _ _ r => TtR.kp (.of (zD hdt (.dK rows))) r
 generalize upd H1 dt (.dK rows) = H2 at s2 ht2 hd2 hx2 hxt2
 have hkt : ∀ z, (valV rows (.inr z)).isSome = decide (z ∈ ts.map (·.1)) := rw_in hrw
 dsimp only [gName, List.set_cons_succ, List.set_cons_zero]
 refine seq_mid (fun σ' G => Same H2 G ∧ shsFl sh = [] ∧ ∃ u1 u2 u3 u4 u5 u6 u7 u8, σ' = [some (.ref a), some (.ref d), some (.ref dt), u1, u2, u3, u4, u5, u6, u7, u8]) (fun σ' G hR => ?_) (fun hk => ?_)
 · obtain ⟨s3, hok, u1, u2, u3, u4, u5, u6, u7, u8, rfl⟩ := hR
   refine ⟨_, rfl, a, _, dx, _, _, rfl, (s2.trans s3) _ _ p1, T.cl_Paper, T.no_Paper_totals, rfl, qb, rfl, ⟨_, SqL.of (s3 _ _ hx2)⟩, ?_⟩
   refine yQ (xs := tx) (fun i σ H' => G = H' ∧ ((ts.map fun t => ptFl (qsOf sh) (ts.map (·.1)) t.2).take i).flatten = [] ∧ ∃ u1 u2 u3 u4 u5 u6 u7 u8, σ = [some (.ref a), some (.ref d), some (.ref dt), u1, u2, u3, u4, u5, u6, u7, u8]) ⟨rfl, rfl, _, _, _, _, _, _, _, _, rfl⟩ (fun i σ H' _ hw => hw.1 ▸ SqL.of (s3 _ _ hx2)) (fun i x σ H' hxi hw => ?_) (fun σ H' hw => ?_)
   · obtain ⟨rfl, hn, u1, u2, u3, u4, u5, u6, u7, u8, rfl⟩ := hw
     obtain ⟨t, ht, b, l, rfl, hb, hl⟩ := yE hxt2 hxi
     have hmi : (ts.map fun t => ptFl (qsOf sh) (ts.map (·.1)) t.2)[i]? = some (ptFl (qsOf sh) (ts.map (·.1)) t.2) := by rw [List.getElem?_map, ht]; rfl
     refine ⟨b, _, rfl, SqT.of (s3 _ _ hb), rfl, _, _, rfl, _, _, rfl, rfl, ?_⟩
     refine ⟨_, rfl, _, rfl, _, rfl, l, d, kvs, dt, rows, qsOf sh, ts.map (·.1), t.2, rfl, hl.kp (.of s3), s3 _ _ hd2, hKD.same (s2.trans s3), s3 _ _ ht2, hkt, hA.2.2 t (List.mem_of_getElem? ht), fun h0 => ⟨rfl, nil_of hn (by rw [hmi, h0]), _, _, _, _, _, _, _, _, rfl⟩, fun f r hf => ?_⟩
     rw [hf] at hmi
     obtain ⟨r', hr'⟩ := hd_of hn hmi
     exact (q2 f r' (by show shsFl sh ++ _ = _; rw [hok]; exact hr')).same (s2.trans s3)
   · obtain ⟨rfl, hn, _⟩ := hw
     rw [zL hxt2, ← List.length_map (as := ts) (f := fun t => ptFl (qsOf sh) (ts.map (·.1)) t.2), List.take_length] at hn
     exact q1 (by show shsFl sh ++ _ = _; rw [hok]; exact hn) _ (s2.trans s3)
 · refine ⟨_, rfl, a, _, dx, _, _, rfl, s2 _ _ p1, T.cl_Paper, T.no_Paper_sheets, (by rw [lk2 (by symm)]), qa, rfl, ⟨_, SqL.of (s2 _ _ p2)⟩, ?_⟩
   refine for_enumR (xs := xs) (fun i σ H' => Same H2 H' ∧ ((sh.mapIdx (shFl (qsOf sh) sh)).take i).flatten = [] ∧ ∃ u1 u2 u3 u4 u5 u6 u7 u8, σ = [some (.ref a), some (.ref d), some (.ref dt), u1, u2, u3, u4, u5, u6, u7, u8]) ⟨Same.refl _, rfl, _, _, _, _, _, _, _, _, rfl⟩ (fun i σ H' _ hw => SqL.of ((s2.trans hw.1) _ _ p2)) (fun i x σ H' hxi hw Tt hT => ?_) (fun σ H' hw => hk _ _ (by rw [lxs, ← List.length_mapIdx (l := sh) (f := shFl (qsOf sh) sh), List.take_length] at hw; exact hw))
   obtain ⟨s3, hok, u1, u2, u3, u4, u5, u6, u7, u8, rfl⟩ := hw
   obtain ⟨t, ht, sa, sdx, r, y, rs, ys, rfl, a1, a2, a3, a4, a5⟩ := yE p3 hxi
   have hi := (List.getElem?_eq_some_iff.mp ht).1
   have htg := hG.2.1 t (List.mem_of_getElem? ht)
   have s4 := s3.trans (zD hT (.tup [.int (i : Nat), .ref sa]))
   refine ⟨Tt, _, rfl, SqT.of zB, rfl, _, _, rfl, _, _, rfl, rfl, ?_⟩
   generalize upd H' Tt (.tup [.int (i : Nat), .ref sa]) = H3 at s4
   have s5 := s2.trans s4
   dsimp only [gName, List.set_cons_succ, List.set_cons_zero]
   refine ⟨_, rfl, sa, _, sdx, _, _, rfl, s5 _ _ a1, T.cl_Sheet, T.no_Sheet_each, rfl, rfl, _, rfl, iteF ?_⟩
   refine ⟨_, rfl, sa, _, sdx, _, _, rfl, s5 _ _ a1, T.cl_Sheet, T.no_Sheet_rows, rfl, r, rfl, ⟨_, SqL.of (s5 _ _ a2)⟩, ?_⟩
   have hAt := hA.1 t (List.mem_of_getElem? ht)
   refine yQ (xs := rs) (fun j σ G => Same H3 G ∧ ((t.rows.map fun r => atFl (qsOf sh) r.2).take j).flatten = [] ∧ ∃ u3, σ = [some (.ref a), some (.ref d), some (.ref dt), some (.int (i : Nat)), some (.ref sa), u3, u4, u5, u6, u7, u8]) ⟨Same.refl _, rfl, _, rfl⟩ (fun j σ G _ hw => SqL.of ((s5.trans hw.1) _ _ a2)) (fun j x σ G hxj hw => ?_) (fun σ G hw => ?_)
   · obtain ⟨s6, hn, u3, rfl⟩ := hw
     obtain ⟨rw', hrw', hrr⟩ := yE a4 hxj
     have hmi : (t.rows.map fun r => atFl (qsOf sh) r.2)[j]? = some (atFl (qsOf sh) rw'.2) := by rw [List.getElem?_map, hrw']; rfl
     have s7 := s5.trans s6
     refine ⟨_, rfl, x, rw', rfl, hrr.same s7, fun v hv => ?_⟩
     refine ⟨_, rfl, _, rfl, v, rw'.2, d, kvs, dt, rows, qsOf sh, ts.map (·.1), rfl, hv, (s4.trans s6) _ _ hd2, hKD.same s7, (s4.trans s6) _ _ ht2, hkt, hAt.1 rw' (List.mem_of_getElem? hrw'), fun h0 H4 s8 => ⟨s6.trans s8, nil_of hn (by rw [hmi, h0]), _, rfl⟩, fun f r hf => ?_⟩
     rw [hf] at hmi
     obtain ⟨r', hr'⟩ := shs_hd hok ht (app_hd (hd_of hn hmi)) ts
     exact (q2 f r' hr').same s7
   · obtain ⟨s6, hrn, u3, rfl⟩ := hw
     rw [zL a4, ← List.length_map (as := t.rows) (f := fun r => atFl (qsOf sh) r.2), List.take_length] at hrn
     have hrn' : rwFl (qsOf sh) t = [] := hrn
     have s7 := s5.trans s6
     refine ⟨(by show 1 ≤ sizeLine; decide), fun le hle => ?_⟩
     have s8 := zD hle (.lst [.str zE])
     have he : (upd G le (.lst [.str zE])) le = some (.lst [.str zE]) := zB
     generalize upd G le (.lst [.str zE]) = H4 at s8 he
     have s9 := s7.trans s8
     refine ⟨_, rfl, a, _, dx, _, _, rfl, s9 _ _ p1, T.cl_Paper, T.no_Paper_sheets, (by rw [lk2 (by symm)]), ?_⟩
     refine ⟨_, rfl, _, _, rfl, rfl, _, rfl, qa, xs, rfl, SqL.of (s9 _ _ p2), fun lc hlc => ?_⟩
     rw [show (((i : Nat) : Int) + 1) = ((i + 1 : Nat) : Int) by omega, cutV_drop (by omega)]
     have s10 := zD hlc (.lst (xs.drop (i + 1)))
     have hc : (upd H4 lc (.lst (xs.drop (i + 1)))) lc = some (.lst (xs.drop (i + 1))) := zB
     have he2 := s10 _ _ he
     generalize upd H4 lc (.lst (xs.drop (i + 1))) = H5 at s10 hc he2
     have s11 := s9.trans s10
     have h10 := hG.1
     have p3d := paired_drop (i + 1) p3
     have ld : (xs.drop (i + 1)).length ≤ 10 := by rw [List.length_drop]; omega
     refine ⟨lc, rfl, ⟨_, SqL.of hc⟩, ?_⟩
     refine comp_listR (xs := xs.drop (i + 1)) (yP (m := 100) (by omega)) (fun j zs G2 => H5 = G2 ∧ zs = (((sh.drop (i + 1)).take j).map (·.nm)).map V.str) ⟨rfl, rfl⟩ (fun j zs G2 hw => hw.1 ▸ SqL.of hc) (fun j x zs G2 hxj _ hw => ?_) (fun zs G2 _ hw p hp => ?_)
     · obtain ⟨rfl, rfl⟩ := hw
       obtain ⟨t2, ht2', sb, sbx, _, _, _, _, rfl, b1, _⟩ := yE p3d hxj
       refine ⟨_, rfl, sb, _, sbx, _, _, rfl, s11 _ _ b1, T.cl_Sheet, T.no_Sheet_name, rfl, rfl, ?_⟩
       rw [yM ht2', List.map_append, List.map_append]; rfl
     obtain ⟨rfl, rfl⟩ := hw
     rw [zL p3d, List.take_length]
     have s12 := zD hp (.lst (((sh.drop (i + 1)).map (·.nm)).map V.str))
     refine ⟨le, p, _, _, rfl, rfl, s12 _ _ he2, zB, (by rw [List.length_map, List.length_map, List.length_drop, sizeLine_eq, List.length_singleton]; omega), fun lt hlt => ?_⟩
     have s13 := s11.trans (s12.trans (zD hlt (.lst ([.str zE] ++ ((sh.drop (i + 1)).map (·.nm)).map V.str))))
     have s14 := s4.trans (s6.trans (s8.trans (s10.trans (s12.trans (zD hlt (.lst ([.str zE] ++ ((sh.drop (i + 1)).map (·.nm)).map V.str)))))))
     have hlt2 : (upd (upd H5 p (.lst (((sh.drop (i + 1)).map (·.nm)).map V.str))) lt (.lst ([.str zE] ++ ((sh.drop (i + 1)).map (·.nm)).map V.str))) lt = some (.lst ((tgt sh i).map V.str)) := by rw [zB]; rfl
     dsimp only [gName, List.set_cons_succ, List.set_cons_zero]
     generalize upd (upd H5 p (.lst (((sh.drop (i + 1)).map (·.nm)).map V.str))) lt (.lst ([.str zE] ++ ((sh.drop (i + 1)).map (·.nm)).map V.str)) = H6 at s13 s14 hlt2
     refine ⟨_, rfl, sa, _, sdx, _, _, rfl, s13 _ _ a1, T.cl_Sheet, T.no_Sheet_ways, rfl, y, rfl, ⟨_, SqL.of (s13 _ _ a3)⟩, ?_⟩
     refine yQ (xs := ys) (fun j σ G => Same H6 G ∧ ((t.ways.map (wyFl (qsOf sh) (tgt sh i))).take j).flatten = [] ∧ ∃ u5 u6, σ = [some (.ref a), some (.ref d), some (.ref dt), some (.int (i : Nat)), some (.ref sa), u3, some (.ref lt), u5, u6, u7, u8]) ⟨Same.refl _, rfl, _, _, rfl⟩ (fun j σ G _ hw => SqL.of ((s13.trans hw.1) _ _ a3)) (fun j x σ G hxj hw => ?_) (fun σ G hw => ?_)
     · obtain ⟨s15, hn, u5, u6, rfl⟩ := hw
       obtain ⟨yw, hyw, ta, v, rfl, hta, hv⟩ := yE a5 hxj
       have hmi : (t.ways.map (wyFl (qsOf sh) (tgt sh i)))[j]? = some (wyFl (qsOf sh) (tgt sh i) yw) := by rw [List.getElem?_map, hyw]; rfl
       have hAy := hAt.2 yw (List.mem_of_getElem? hyw)
       have fin : ∀ {f : Flt} {r : List Flt}, wyFl (qsOf sh) (tgt sh i) yw = f :: r → ∃ r', nmFl sh ts = f :: r' := fun {f r} hf => by
         rw [hf] at hmi
         exact shs_hd hok ht (by unfold shFl; rw [hrn']; exact hd_of hn hmi) ts
       have s16 := s13.trans s15
       refine ⟨ta, _, rfl, SqT.of (s16 _ _ hta), rfl, _, _, rfl, _, _, rfl, rfl, ?_⟩
       dsimp only [gName, List.set_cons_succ, List.set_cons_zero]
       refine ⟨_, rfl, _, rfl, lt, _, rfl, .inl (SqL.of (s15 _ _ hlt2)), rfl, strs_flat _, _, rfl, ?_⟩
       show if (!inV (.str yw.1) ((tgt sh i).map V.str)) = true then _ else _
       rw [inV_strs]
       by_cases c : yw.1 ∈ tgt sh i
       · rw [decide_eq_true c]
         refine iteF ?_
         have hwy : wyFl (qsOf sh) (tgt sh i) yw = atFl (qsOf sh) yw.2 := if_pos c
         refine ⟨_, rfl, _, rfl, _, rfl, v, yw.2, d, kvs, dt, rows, qsOf sh, ts.map (·.1), rfl, hv.same s16, (s14.trans s15) _ _ hd2, hKD.same s16, (s14.trans s15) _ _ ht2, hkt, hAy.2, fun h0 G2 s17 => ⟨s15.trans s17, nil_of hn (by rw [hmi, hwy, h0]), _, _, rfl⟩, fun f r hf => ?_⟩
         obtain ⟨r', hr'⟩ := fin (hwy.trans hf)
         exact (q2 f r' hr').same s16
       · rw [decide_eq_false c]
         refine iteT ?_
         refine ⟨_, rfl, (by show 1 ≤ sizeLine; decide), fun e he => raised he (by have := hAy.1; omega) fun dx' G2 s17 h17 => ?_⟩
         obtain ⟨r', hr'⟩ := fin (f := (.nw, yw.1)) (r := []) (if_neg c)
         exact q2 _ r' hr' dx' G2 (s16.trans s17) fun _ => h17
     · obtain ⟨s15, hn, u5, u6, rfl⟩ := hw
       rw [zL a5, ← List.length_map (as := t.ways) (f := wyFl (qsOf sh) (tgt sh i)), List.take_length] at hn
       refine ⟨s14.trans s15, nil_of hok (by rw [List.getElem?_mapIdx, ht]; show some (rwFl (qsOf sh) t ++ wsFl (qsOf sh) sh i t) = _; rw [hrn', show wsFl (qsOf sh) sh i t = [] from hn]; rfl), _, _, _, _, _, _, _, _, rfl⟩
end
end K40
set_option maxHeartbeats 4000000
namespace K40
open PySem L2
seal PE PT PW PA PS PSs PG PGs PI PO PSet OpR UnR CallR TruR IxR SlR PC PPs
local macro_rules | `(tactic| walk_at "rd1") => `(tactic| first
 | (refine And.intro rfl ?_)
 | (refine And.intro (by assumption) ?_)
 | (refine And.intro (fun _ e => e) ?_)
 | (refine And.intro (TyOf.str _) ?_) | (refine And.intro (TyOf.int _) ?_) | (refine And.intro (TyOf.bl _) ?_) | (refine And.intro TyOf.non ?_)
 | (refine iteT ?_) | (refine iteF ?_)
 | (apply Exists.intro))
local macro_rules | `(tactic| walk_at "rd") => `(tactic| repeat (walk_at "rd1"))
theorem slen_le {ns : List Str} (h : ∀ z ∈ ns, z.length ≤ 100) : (ns.map (·.length)).sum ≤ ns.length * 100 := by
 induction ns with
 | nil => exact Nat.le_refl _
 | cons a r ih =>
   have h1 := ih fun z hz => h z (List.mem_cons_of_mem _ hz)
   have h2 := h a (List.mem_cons_self ..)
   rw [List.map_cons, List.sum_cons, List.length_cons]
   omega
theorem join_len (sep : Str) : ∀ ns : List Str, (joinS sep ns).length ≤ (ns.map (·.length)).sum + ns.length * sep.length := by
 intro ns
 rw [joinS_is, len_cd, cd_S, len_cd sep]
 induction ns with
 | nil => exact Nat.zero_le _
 | cons a r ih =>
   cases r with
   | nil =>
     show (cd a).length ≤ (a.length + 0) + _
     rw [len_cd]; omega
   | cons b t =>
     show (cd a ++ cd sep ++ joinL (cd sep) ((b :: t).map cd)).length ≤ _
     rw [List.length_append, List.length_append]
     show _ ≤ (a.length + ((b :: t).map (·.length)).sum) + ((b :: t).length + 1) * (cd sep).length
     rw [len_cd a, Nat.succ_mul]
     omega
def sF (tn : List Str) (p : Part) : Option Str := match p.2 with
 | some z => if z ∈ tn then some z else none
 | none => none
def sIn (tn : List Str) (ps : List Part) : List Str := ps.filterMap (sF tn)
theorem sIn_app (tn : List Str) (a b : List Part) : sIn tn (a ++ b) = sIn tn a ++ sIn tn b := List.filterMap_append
theorem sIn_mem {tn : List Str} {ps : List Part} {z : Str} (h : z ∈ sIn tn ps) : z ∈ tn := by
 obtain ⟨p, _, hp⟩ := List.mem_filterMap.mp h
 unfold sF at hp
 split at hp
 · rename_i y hy
   by_cases c : y ∈ tn
   · rw [if_pos c] at hp; cases hp; exact c
   · rw [if_neg c] at hp; cases hp
 · cases hp
def hasT (L : List Tot) (t : Tot) : Bool := !(sIn (L.map (·.1)) t.2).isEmpty
def nxT (L : List Tot) : List Tot := L.filter (hasT L)
def Clo (L : List Tot) : Prop := ∀ t ∈ L, hasT L t = true
theorem nxT_prog {L : List Tot} {t n : Nat} (hc : Clo L ∨ L.length + t ≤ n) : Clo (nxT L) ∨ (nxT L).length + (t + 1) ≤ n := by
 by_cases e : ∀ x ∈ L, hasT L x = true
 · have : nxT L = L := List.filter_eq_self.mpr e
   rw [this]
   exact .inl e
 · rcases hc with c | c
   · exact absurd c e
   · refine .inr ?_
     have : (nxT L).length < L.length := by
       refine Nat.lt_of_le_of_ne (List.length_filter_le ..) fun z => e ?_
       exact List.filter_eq_self.mp (List.filter_sublist.eq_of_length z)
     omega
def itT : Nat → List Tot → List Tot
 | 0, L => L
 | n + 1, L => nxT (itT n L)
theorem itT_sub : ∀ (n : Nat) (L : List Tot), (itT n L).Sublist L
 | 0, L => List.Sublist.refl _
 | n + 1, L => (List.filter_sublist).trans (itT_sub n L)
theorem clo_end {L : List Tot} {n : Nat} (h : Clo L ∨ L.length + n ≤ n) : Clo L := h.elim id fun h => by
 cases L with
 | nil => intro t ht; cases ht
 | cons a r => rw [List.length_cons] at h; omega
def spSums : Sp := fun vs H Q _ => ∃ (l d : Addr) (ps : List Part) (kvs : List (Key × V)) (tn : List Str), vs = [.ref l, .ref d] ∧ PsR H l ps ∧ ps.length ≤ 100 ∧ Rd H d (.dK kvs) ∧ (∀ z, (valV kvs (.inr z)).isSome = decide (z ∈ tn)) ∧
 ∀ l', H l' = none → Q (.ref l') (upd H l' (.lst ((sIn tn ps).map V.str)))
def spRg (A : Adr) : Sp := fun vs H Q _ => ∃ (e l : Addr) (ns : List Str), vs = [.ref e, .ref l] ∧ H l = some (.lst (ns.map V.str)) ∧ ns.length ≤ 100 ∧ (∀ z ∈ ns, z.length ≤ 100) ∧ H e = some (excN e A.c_Ring none) ∧
 ∀ l' dx, H l' = none → (upd H l' (.lst (ns.map V.str))) dx = none → dx ≠ e → Q .non (upd (upd (upd H l' (.lst (ns.map V.str))) e (excN e A.c_Ring (some dx))) dx (.xd [("ring", .ref l')]))
section
variable {P : Program} {w : World} {K : W.Frag} {mg : Str → Option Value} {base : Heap} {A : Adr}
theorem ok_sums_in (T : Txt K mg A) : FnOk P w K mg base CX0 1 A.f_sums_in A.d_sums_in ["parts", "totals"] spSums := by
 refine T.F_sums_in.ok sc_sums_in (fun vs H Q E h => ?_) (fun cdv A0 outer s H vs Q E hr h => ?_)
 · obtain ⟨l, d, ps, kvs, tn, rfl, _⟩ := h
   rfl
 obtain ⟨l, d, ps, kvs, tn, rfl, ⟨xs, hl, hp⟩, hz, hd, hk, q⟩ := h
 refine ⟨_, (zH (zY (pe_compT (compOk2_of (xF (x := "times") (M := ["parts", "totals"]) rfl (by rfl)) (by rfl) (by symm)) rfl (yR (pv 0)) (fun _ _ _ _ => (pifs_one (yC (op_inO (xN hr)) (pv 1) (pv 3) (by rfl)))) (fun _ _ _ _ => (pv 1))))), ?_⟩
 refine ⟨_, rfl, l, rfl, ⟨_, SqL.of hl⟩, ?_⟩
 have lx := zL hp
 refine comp_listT (xs := xs) (yP (m := 100) (by omega)) (fun i ys G => H = G ∧ ys = (sIn tn (ps.take i)).map V.str) ⟨rfl, rfl⟩ (fun i ys G hw => hw.1 ▸ SqL.of hl) (fun i x ys G hxi _ hw => ?_) (fun ys G hw p2 hp2 => ?_)
 · obtain ⟨rfl, rfl⟩ := hw
   obtain ⟨p, hpi, t, rfl, ht⟩ := yE hp hxi
   refine ⟨t, _, _, rfl, SqT.of ht, ?_⟩
   rw [yM hpi, sIn_app, List.map_append]
   have e1 : sIn tn [p] = (sF tn p).toList := by
     unfold sIn
     rw [List.filterMap_cons]
     cases sF tn p <;> rfl
   rw [e1]
   cases hq : p.2 with
   | none =>
     refine ⟨_, rfl, _, rfl, .inr ⟨d, _, rfl, rfl, hd, _, rfl, iteF ⟨rfl, ?_⟩⟩⟩
     unfold sF; rw [hq]; simp
   | some z =>
     refine ⟨_, rfl, _, rfl, .inl ⟨d, valV kvs (.inr z), rfl, .inl ⟨_, .inr z, hd, rfl, rfl⟩, _, rfl, ?_⟩⟩
     rw [hk z]
     by_cases c : z ∈ tn
     · rw [decide_eq_true c]
       refine iteT ⟨_, rfl, rfl, ?_⟩
       unfold sF; rw [hq]; dsimp only; rw [if_pos c]; rfl
     · rw [decide_eq_false c]
       refine iteF ⟨rfl, ?_⟩
       unfold sF; rw [hq]; dsimp only; rw [if_neg c]; simp
 · obtain ⟨rfl, rfl⟩ := hw
   rw [lx, List.take_length]
   exact q p2 hp2
theorem ok_rg (T : Txt K mg A) : FnOk P w K mg base (CXW P w) 1 A.f_c_Ring___init A.d_c_Ring___init ["self", "ring"] (spRg A) := by
 refine T.F_c_Ring___init.okX sc_c_Ring___init (fun vs H Q E h => ?_) (fun cdv A0 outer s H vs Q E hr h => ?_)
 · obtain ⟨e, l, ns, rfl, _⟩ := h
   rfl
 obtain ⟨e, l, ns, rfl, hl, hn, hz, he, q⟩ := h
 refine ⟨_, (zF (yI (pe_binit T.bi_AskError rfl T.m_AskError (zA (pv 0) (zA (zU op_add_str zP (pe_bm PySem.F.plainAttrs_str PySem.F.slot_str_join PySem.F.type_str_join mt_join zP (zA (pv 1) zC))) zC))))
     (zH (ps_fldX (pv 0) (yH xP (by rfl) T.n_list Bt.list (zA (pv 1) zC)) rfl rfl))), ?_⟩
 have hsum := slen_le hz
 have hl2 : (Str.ofString ", ").length = 2 := by symm
 have hl3 : (Str.ofString "sums come back to themselves: ").length = 30 := by symm
 have hb : (ns.map (·.length)).sum + ns.length * (Str.ofString ", ").length ≤ 10200 := by
   rw [hl2]
   have : ns.length * 100 ≤ 10000 := by omega
   omega
 have hj := join_len (Str.ofString ", ") ns
 refine ⟨_, rfl, rfl, _, rfl, _, l, ns, rfl, rfl, .inl (SqL.of hl), (by omega), _, _, rfl, rfl, (by rw [hl3, sizeLine_eq]; omega), ⟨e, A.c_Ring, _, rfl, he, T.mx_Ring.ex, ?_⟩⟩
 refine ⟨_, rfl, l, _, rfl, .inl (SqL.of hl), fun l' hl' => ?_⟩
 have ne : e ≠ l' := fun z => by rw [z] at he; rw [he] at hl'; cases hl'
 exact ⟨_, rfl, e, A.c_Ring, rfl, (by rw [zK ne]; exact he), T.es_Ring_ring, fun dx hdx nd => q l' dx hl' hdx nd⟩
end
end K40
set_option maxHeartbeats 4000000
namespace K40
open PySem L2
seal PE PT PW PA PS PSs PG PGs PI PO PSet OpR UnR CallR TruR IxR SlR PC PPs
local macro_rules | `(tactic| walk_at "rd1") => `(tactic| first
 | (refine And.intro rfl ?_)
 | (refine And.intro (by assumption) ?_)
 | (refine And.intro (fun _ e => e) ?_)
 | (refine And.intro (TyOf.str _) ?_) | (refine And.intro (TyOf.int _) ?_) | (refine And.intro (TyOf.bl _) ?_) | (refine And.intro TyOf.non ?_)
 | (refine iteT ?_) | (refine iteF ?_)
 | (apply Exists.intro))
local macro_rules | `(tactic| walk_at "rd") => `(tactic| repeat (walk_at "rd1"))
def spLR (A : Adr) : Sp := fun vs H Q E => ∃ a sh ts, vs = [.ref a] ∧ PaR A H a sh ts ∧ GP sh ts ∧ (ts.map (·.1)).Nodup ∧ (∀ t ∈ ts, t.1.length ≤ 100) ∧ (itT ts.length ts = [] → ∀ H', Same H H' → Q .non H') ∧ (itT ts.length ts ≠ [] → XR A H E (.rg, Str.ofString ""))
theorem idx_of {pth : List Str} (nd : pth.Nodup) {i : Nat} {cur : Str} (hi : pth[i]? = some cur) : IdxOf (.str cur) (pth.map V.str) i := by
 have li := (List.getElem?_eq_some_iff.mp hi).1
 refine ⟨.str cur, by rw [List.getElem?_map, hi]; rfl, beq_self_eq_true _, fun m z hm hz => ?_⟩
 rw [List.getElem?_map] at hz
 obtain ⟨o, ho, rfl⟩ := Option.map_eq_some_iff.mp hz
 refine beq_eq_false_iff_ne.mpr fun e => ?_
 subst e
 have := (List.getElem?_inj (by omega) nd).mp (ho.trans hi.symm)
 omega
theorem valV_mem {kvs : List (Key × V)} {k : Key} {v : V} (h : valV kvs k = some v) : (k, v) ∈ kvs := by
 unfold valV at h
 obtain ⟨kv, h1, rfl⟩ := Option.map_eq_some_iff.mp h
 have h2 := List.find?_some h1
 have h3 : kv.1 = k := of_decide_eq_true h2
 rw [← h3]
 exact List.mem_of_find?_eq_some h1
theorem rwd_at {H : Hp} {kvs : List (Key × V)} {L : List Tot} (h : Paired (RwD H) kvs L) (nd : (L.map (·.1)).Nodup) {t : Tot} (ht : t ∈ L) : ∃ l, valV kvs (.inr t.1) = some (.ref l) ∧ PsR H l t.2 := by
 obtain ⟨i, hi⟩ := List.getElem?_of_mem ht
 obtain ⟨kv, hkv, e1, l, e2, hl⟩ := xJ h hi
 have hin := rw_in h t.1
 rw [decide_eq_true (List.mem_map_of_mem ht)] at hin
 obtain ⟨v, hv⟩ := Option.isSome_iff_exists.mp hin
 obtain ⟨j, hj⟩ := List.getElem?_of_mem (valV_mem hv)
 obtain ⟨t2, ht2, f1, l2, f2, hl2⟩ := yE h hj
 have e3 : t2.1 = t.1 := (Sum.inr.inj f1).symm
 have lj := (List.getElem?_eq_some_iff.mp ht2).1
 have : i = j := by
   have li := (List.getElem?_eq_some_iff.mp hi).1
   exact (List.getElem?_inj (by rw [List.length_map]; exact li) nd).mp (by rw [List.getElem?_map, List.getElem?_map, hi, ht2]; show some t.1 = some t2.1; rw [e3])
 subst this
 rw [hi] at ht2
 cases ht2
 exact ⟨l2, by rw [hv]; exact congrArg some f2, hl2⟩
section
variable {P : Program} {w : World} {K : W.Frag} {mg : Str → Option Value} {base : Heap} {A : Adr}
theorem ok_ring (T : Txt K mg A) : FnOk P w K mg base (CXW P w) 3 A.f_look_for_ring A.d_look_for_ring ["paper"] (spLR A) := by
 have G_sums_in := ok_sums_in (P := P) (w := w) (base := base) T
 have G_c_Ring___init := ok_rg (P := P) (w := w) (base := base) T
 refine T.F_look_for_ring.okX sc_look_for_ring (fun vs H Q E h => ?_) (fun cdv A0 outer s H vs Q E hr h => ?_)
 · obtain ⟨a, sh, ts, rfl, _⟩ := h
   rfl
 obtain ⟨a, sh, ts, rfl, hP, hG, hnd, hlen, q1, q2⟩ := h
 refine ⟨_, (zF (zX (i := 1) sc_look_for_ring.nd rfl (by first | exact Or.inl rfl | exact Or.inr rfl) (yH (call_dict_pairs rfl) (by rfl) T.n_dict Bt.dict (zA (zO (pv 0) rfl) zC)))
     (zF (PS.nox (ps_forR PassesOwn.never rfl (pi_range1 rfl T.n_range (zA (yA yW (by rfl) T.n_len PySem.boot_len (zA (zO (pv 0) rfl) zC)) zC)) (zS (i := 2) sc_look_for_ring.nd rfl (by first | exact Or.inl rfl | exact Or.inr rfl)) (zH (zX (i := 1) sc_look_for_ring.nd rfl (by first | exact Or.inl rfl | exact Or.inr rfl) (yH (call_dict_pairs rfl) (by rfl) T.n_dict Bt.dict (zA (pe_compT (compOk2_of (xF (x := "name") (M := ["paper", "totals", "turn", "path", ""]) rfl (by rfl)) (by rfl) (by symm)) rfl (pi_items (pv 1)) (fun _ _ _ _ => pifs_eqv (by exact (pifs_one (yC op_gt (yA yW (by rfl) T.n_len PySem.boot_len (zA (zV G_sums_in (hr.mono (by first | decide | omega)) rfl T.m_sums_in T.k_sums_in T.b_sums_in .nil yB (zA (pv 1) (zA (pv 3) zC))) zC)) zJ (yJ _)))) (by dsimp only [compCx2] <;> rfl)) (fun _ _ _ _ => (zM (zA (pv 0) (zA (pv 1) zC))))) zC))))))
     (zF (yN (yC op_eq (yA call_lenD (by rfl) T.n_len PySem.boot_len (zA (pv 1) zC)) zJ (yJ _)) (zH ps_retN) zW)
     (zF (zX (i := 3) sc_look_for_ring.nd rfl (by first | exact Or.inl rfl | exact Or.inr rfl) (zQ zC))
     (zF (zX (i := 4) sc_look_for_ring.nd rfl (by first | exact Or.inl rfl | exact Or.inr rfl) (xK xG (yH (call_list_dict rfl) (by rfl) T.n_list Bt.list (zA (pv 1) zC)) zJ (fun _ _ => rfl)))
     (zF (PS.nox (ps_whileR PassesOwn.never (yC op_notIn_seq (pv 4) (pv 3) (by rfl)) (zF (yI (pe_bm PySem.F.plainAttrs_list PySem.F.slot_list_append PySem.F.type_list_append mt_append (pv 3) (zA (pv 4) zC)))
     (zH (zX (i := 4) sc_look_for_ring.nd rfl (by first | exact Or.inl rfl | exact Or.inr rfl) (xK xG (zV G_sums_in (hr.mono (by first | decide | omega)) rfl T.m_sums_in T.k_sums_in T.b_sums_in .nil yB (zA (pe_dget (xN hr) (pv 1) (pv 4) (fun _ _ => rfl)) (zA (pv 1) zC))) zJ (fun _ _ => rfl)))))))
     (zH (ps_raiseI T.mx_Ring G_c_Ring___init (hr.mono (by first | decide | omega)) T.b_c_Ring___init T.m_Ring (zA (pe_slice sl_list (pv 3) (po_some (pe_bm PySem.F.plainAttrs_list PySem.F.slot_list_index PySem.F.type_list_index mt_lindex (pv 3) (zA (pv 4) zC))) po_none) zC) rfl)))))))), ?_⟩
 obtain ⟨dx, u, qa, qb, xs, p1, p2, p3, tx, hx, hxt⟩ := hP
 have ltx := zL hxt
 have h100 := hG.2.2.1
 obtain ⟨rows, hpr, hrw⟩ := rows_mk hxt
 have lrw := zL hrw
 refine ⟨_, rfl, a, _, dx, _, _, rfl, p1, T.cl_Paper, T.no_Paper_totals, rfl, qb, tx, rows, rfl, hx, hpr, fun d hd => ?_⟩
 rw [mkD_nd (rw_nd hrw hnd)]
 have s0 := zD hd (.dK rows)
 dsimp only [gName, List.set_cons_succ, List.set_cons_zero]
 refine seq_mid (fun σ' G => ∃ u1 u2 u3 d kvs, σ' = [some (.ref a), some (.ref d), u1, u2, u3] ∧ Same H G ∧ H d = none ∧ G d = some (.dK kvs) ∧ Paired (RwD H) kvs (itT ts.length ts) ∧ Clo (itT ts.length ts)) (fun σ' G hR => ?_) (fun hk => ?_)
 · obtain ⟨u1, u2, u3, d, kvs, rfl, sG, hdN, hdG, hrd, cl⟩ := hR
   clear hd s0
   have sub := itT_sub ts.length ts
   generalize itT ts.length ts = L at hrd cl sub q1 q2
   have ndL : (L.map (·.1)).Nodup := hnd.sublist (sub.map _)
   have lkv := zL hrd
   have lL : L.length ≤ 100 := Nat.le_trans sub.length_le h100
   refine ⟨_, rfl, d, _, rfl, hdG, rfl, _, rfl, ?_⟩
   refine ite2 (fun c => ?_) (fun c => ?_)
   · have c' : ((kvs.length : Nat) : Int) = 0 := V.int.inj (of_decide_eq_true c)
     exact q1 (List.eq_nil_of_length_eq_zero (by omega)) G sG
   have hLne : L ≠ [] := fun e => c (by rw [List.eq_nil_of_length_eq_zero (show kvs.length = 0 by rw [lkv, e]; rfl)]; rfl)
   refine ⟨(by show 0 ≤ sizeLine; decide), fun lp hlp => ?_⟩
   have s1 := zD hlp (.lst [])
   have hp1 : (upd G lp (.lst [])) lp = some (.lst []) := zB
   have npd : lp ≠ d := fun e => by rw [e, hdG] at hlp; cases hlp
   refine ⟨_, rfl, d, _, rfl, .inl (s1 _ _ hdG), fun lk hlk => ?_⟩
   have s2 := zD hlk (.lst (kvs.map fun kv => kV kv.1))
   obtain ⟨t0, L', rfl⟩ := List.exists_cons_of_ne_nil hLne
   obtain ⟨kv0, hkv0, f1, _⟩ := xJ hrd (i := 0) rfl
   refine ⟨lk, _, _, _, rfl, rfl, SqL.of zB, yS (j := 0) (show (kvs.map fun kv => kV kv.1)[0]? = some (.str t0.1) by rw [List.getElem?_map, hkv0]; show some (kV kv0.1) = _; rw [f1]; rfl), ?_⟩
   have hp2 := s2 _ _ hp1
   have s3 := s1.trans s2
   generalize upd (upd G lp (.lst [])) lk (.lst (kvs.map fun kv => kV kv.1)) = G1 at s3 hp2
   generalize hLL : t0 :: L' = L at *
   have ho0 : t0.1 ∈ L.map (·.1) := by rw [← hLL]; exact List.mem_cons_self ..
   dsimp only [gName, List.set_cons_succ, List.set_cons_zero]
   have hlpN : H lp = none := yF sG hlp
   refine seq_mid (fun σ' G' => ∃ (pth : List Str) (cur : Str), σ' = [some (.ref a), some (.ref d), u1, some (.ref lp), some (.str cur)] ∧ Fr [lp] G1 G' ∧ G' lp = some (.lst (pth.map V.str)) ∧ pth.Nodup ∧ (∀ o ∈ pth, o ∈ L.map (·.1)) ∧ cur ∈ pth) (fun σ' G' hR => ?_) (fun hk => ?_)
   · obtain ⟨pth, cur, rfl, F, hpl, nd, sbp, hin⟩ := hR
     have lpt : pth.length ≤ L.length := Nat.le_trans (List.Nodup.length_le_of_subset nd sbp) (by rw [List.length_map]; exact Nat.le_refl _)
     obtain ⟨i, hi⟩ := List.getElem?_of_mem hin
     have li := (List.getElem?_eq_some_iff.mp hi).1
     refine ⟨_, rfl, _, rfl, .inl ⟨rfl, _, SqL.of hpl⟩, _, rfl, lp, _, _, i, rfl, rfl, SqL.of hpl, strs_flat _, rfl, idx_of nd hi, _, rfl, lp, _, rfl, SqL.of hpl, fun lr hlr => ?_⟩
     have ecut : cutV (pth.map V.str) (some ((i : Nat) : Int)) none = (pth.drop i).map V.str := by
       rw [cutV_drop (by rw [List.length_map]; omega), List.map_drop]
     rw [ecut]
     have s4 := zD hlr (.lst ((pth.drop i).map V.str))
     have sH : Same H G' := fun b o hb => F _ _ (s3 _ _ (sG _ _ hb)) (ni1 (zI hb hlpN))
     have s5 := sH.trans s4
     have hlr2 : (upd G' lr (.lst ((pth.drop i).map V.str))) lr = some (.lst ((pth.drop i).map V.str)) := zB
     generalize upd G' lr (.lst ((pth.drop i).map V.str)) = G2 at s5 hlr2
     refine ⟨(by show 1 ≤ sizeLine; decide), fun e he => ?_⟩
     have ne1 : lr ≠ e := fun z => by rw [z, he] at hlr2; cases hlr2
     refine ⟨e, lr, pth.drop i, rfl, (by rw [zK ne1]; exact hlr2), (by rw [List.length_drop]; omega), (fun z hz => ?_), zB, fun l' dx' hl' hdx nd' => ⟨rfl, dx', (by rw [zK (Ne.symm nd')]; exact zB), ?_⟩⟩
     · obtain ⟨t, ht, rfl⟩ := List.mem_map.mp (sbp z (List.mem_of_mem_drop hz))
       exact hlen t (sub.subset ht)
     obtain ⟨nl1, nl2⟩ := yX hl'
     obtain ⟨nd1, nd2⟩ := yX hdx
     obtain ⟨nd3, nd4⟩ := yX nd2
     refine q2 hLne dx' _ (fun b o hbo => ?_) (fun h => absurd rfl h)
     have h1 := s5 _ _ hbo
     have n1 := zI h1 he
     have n2 := zI h1 nd4
     have n3 := zI h1 nl2
     unfold hid
     rw [if_neg n1, zK n2, zK n1, zK n3, zK n1]
     exact h1
   · refine ⟨⟨fun m σ' G' => ∃ (pth : List Str) (cur : Str), m + pth.length = L.length + 1 ∧ σ' = [some (.ref a), some (.ref d), u1, some (.ref lp), some (.str cur)] ∧ Fr [lp] G1 G' ∧ G' lp = some (.lst (pth.map V.str)) ∧ pth.Nodup ∧ (∀ o ∈ pth, o ∈ L.map (·.1)) ∧ cur ∈ L.map (·.1), ⟨L.length + 1, [], t0.1, rfl, rfl, Fr.of (Same.refl _), hp2, List.nodup_nil, (fun o ho => by cases ho), ho0⟩, fun m σ' G' hw => ?_⟩⟩
     obtain ⟨pth, cur, hm, rfl, F, hpl, nd, sbp, hcur⟩ := hw
     have lpt : pth.length ≤ L.length := Nat.le_trans (List.Nodup.length_le_of_subset nd sbp) (by rw [List.length_map]; exact Nat.le_refl _)
     refine ⟨_, rfl, _, rfl, lp, _, rfl, .inl (SqL.of hpl), rfl, strs_flat _, _, rfl, ?_⟩
     show if (!inV (.str cur) (pth.map V.str)) = true then _ else _
     rw [inV_strs]
     refine ite2 (fun cc => ?_) (fun cc => ?_)
     · have hnot : cur ∉ pth := fun z => by rw [decide_eq_true z] at cc; cases cc
       have ndn : (pth ++ [cur]).Nodup := List.nodup_append.mpr ⟨nd, (List.pairwise_singleton ..), fun x hx y hy e => hnot (by rw [List.mem_singleton.mp hy] at e; rw [← e]; exact hx)⟩
       have subn : ∀ o ∈ pth ++ [cur], o ∈ L.map (·.1) := fun o ho => by
         rcases List.mem_append.mp ho with z | z
         · exact sbp o z
         · rw [List.mem_singleton.mp z]; exact hcur
       have lpn : (pth ++ [cur]).length ≤ L.length := Nat.le_trans (List.Nodup.length_le_of_subset ndn subn) (by rw [List.length_map]; exact Nat.le_refl _)
       rw [List.length_append, List.length_singleton] at lpn
       refine ⟨fun σ' G' => ∃ m', m' < m ∧ ∃ (pth : List Str) (cur : Str), m' + pth.length = L.length + 1 ∧ σ' = [some (.ref a), some (.ref d), u1, some (.ref lp), some (.str cur)] ∧ Fr [lp] G1 G' ∧ G' lp = some (.lst (pth.map V.str)) ∧ pth.Nodup ∧ (∀ o ∈ pth, o ∈ L.map (·.1)) ∧ cur ∈ L.map (·.1), fun _ _ h => h, ?_⟩
       obtain ⟨tc, htc, rfl⟩ := List.mem_map.mp hcur
       have hhas := cl tc htc
       obtain ⟨nx, rest, hsin⟩ : ∃ nx rest, sIn (L.map (·.1)) tc.2 = nx :: rest := by
         unfold hasT at hhas
         cases hc : sIn (L.map (·.1)) tc.2 with
         | nil => rw [hc] at hhas; cases hhas
         | cons x r => exact ⟨x, r, rfl⟩
       have hnx := sIn_mem (show nx ∈ sIn (L.map (·.1)) tc.2 by rw [hsin]; exact List.mem_cons_self ..)
       obtain ⟨lv, hlv, hps⟩ := rwd_at hrd ndL htc
       refine ⟨_, rfl, .inl ⟨rfl, _, SqL.of hpl⟩, _, rfl, lp, _, _, rfl, rfl, hpl, yP (m := 1000) (by rw [List.length_map]; omega), ?_⟩
       have F2 := F.upd (List.mem_singleton.mpr rfl) (.lst (pth.map V.str ++ [.str tc.1]))
       have hpl2 : (upd G' lp (.lst (pth.map V.str ++ [.str tc.1]))) lp = some (.lst ((pth ++ [tc.1]).map V.str)) := by rw [zB, List.map_append]; rfl
       generalize upd G' lp (.lst (pth.map V.str ++ [.str tc.1])) = G2 at F2 hpl2
       have hd2 : G2 d = some (.dK kvs) := F2 _ _ (s3 _ _ hdG) (ni1 (Ne.symm npd))
       have hget := DGet.k (k := .inr tc.1) hd2
       rw [hlv] at hget
       have kp2 : PsR G2 lv tc.2 := hps.kp fun b o hb _ => F2 _ _ (s3 _ _ (sG _ _ hb)) (ni1 (zI hb hlpN))
       refine ⟨_, rfl, _, rfl, d, _, rfl, hget, _, rfl, lv, d, tc.2, kvs, L.map (·.1), rfl, kp2, hG.2.2.2 tc (sub.subset htc), .inl hd2, rw_in hrd, fun l' hl' => ?_⟩
       have s4 := zD hl' (.lst ((sIn (L.map (·.1)) tc.2).map V.str))
       refine ⟨l', _, _, _, rfl, rfl, SqL.of zB, yS (j := 0) (by rw [hsin]; rfl), ?_⟩
       exact ⟨m - 1, by omega, pth ++ [tc.1], nx, by rw [List.length_append, List.length_singleton]; omega, rfl, F2.trans (Fr.of s4), s4 _ _ hpl2, ndn, subn, hnx⟩
     · have hin : cur ∈ pth := by
         cases hd' : decide (cur ∈ pth) with
         | true => exact of_decide_eq_true hd'
         | false => rw [hd'] at cc; exact absurd rfl cc
       exact hk _ _ ⟨pth, cur, rfl, F, hpl, nd, sbp, hin⟩
 · refine ⟨_, rfl, a, _, dx, _, _, rfl, s0 _ _ p1, T.cl_Paper, T.no_Paper_totals, rfl, qb, tx, rfl, .inl (SqL.of (s0 _ _ hx)), _, rfl, (by omega), (by omega), ?_⟩
   rw [show ((tx.length : Nat) : Int).toNat = ts.length by rw [ltx]; rfl]
   refine for_rangeR (fun t σ G => ∃ u1 u2 u3 d kvs, σ = [some (.ref a), some (.ref d), u1, u2, u3] ∧ Same H G ∧ H d = none ∧ G d = some (.dK kvs) ∧ Paired (RwD H) kvs (itT t ts) ∧ (Clo (itT t ts) ∨ (itT t ts).length + t ≤ ts.length)) ⟨_, _, _, d, rows, rfl, s0, hd, zB, hrw, .inr (by show ts.length + 0 ≤ _; omega)⟩ (fun t σ G ht hw => ?_) (fun σ G hw => ?_)
   · obtain ⟨u1, u2, u3, d, kvs, rfl, sG, hdN, hdG, hrd, hc⟩ := hw
     have sub := itT_sub t ts
     have hprog : Clo (itT (t + 1) ts) ∨ (itT (t + 1) ts).length + (t + 1) ≤ ts.length := nxT_prog hc
     show ∃ _, _
     have hnx : itT (t + 1) ts = nxT (itT t ts) := rfl
     generalize itT (t + 1) ts = L2 at hprog hnx
     subst hnx
     generalize itT t ts = L at hrd sub hprog
     have ndL : (L.map (·.1)).Nodup := hnd.sublist (sub.map _)
     have lkv := zL hrd
     have lL : L.length ≤ 100 := Nat.le_trans sub.length_le h100
     refine ⟨_, rfl, d, _, rfl, .inl hdG, fun o => ?_⟩
     have sF' : Same H (upd G d (.frz o (.dK kvs))) := fun b ob hb => by rw [zK (zI hb hdN)]; exact sG _ _ hb
     have hF : (upd G d (.frz o (.dK kvs))) d = some (.frz o (.dK kvs)) := zB
     generalize upd G d (.frz o (.dK kvs)) = G1 at sF' hF
     refine comp_itemsT (kvs := kvs) (yP (m := 1000) (by omega)) (fun i ys G' => Same G1 G' ∧ ∃ rs, Paired (PrR G') ys rs ∧ Paired (RwD H) rs ((L.take i).filter (hasT L))) ⟨Same.refl _, [], .nil, .nil⟩ (fun i ys G' hw => hw.1 _ _ hF) (fun i x ys G' hxi _ hw Tt hT => ?_) (fun ys G' hw p2 hp2 => ?_)
     · obtain ⟨s1, rs, hy, hrs⟩ := hw
       obtain ⟨tt, htt, e1, l, e2, hl⟩ := yE hrd hxi
       obtain ⟨kx, vx⟩ := x
       cases e1
       cases e2
       have sT := zD hT (.tup [kV (Sum.inr tt.1), V.ref l])
       have s2 := s1.trans sT
       generalize upd G' Tt (.tup [kV (Sum.inr tt.1), V.ref l]) = G2 at sT s2
       refine ⟨_, rfl, _, rfl, l, d, tt.2, kvs, L.map (·.1), rfl, hl.kp (.of (sF'.trans s2)), hG.2.2.2 tt (sub.subset (List.mem_of_getElem? htt)), .inr ⟨o, s2 _ _ hF⟩, rw_in hrd, fun l' hl' => ?_⟩
       have s3 := zD hl' (.lst ((sIn (L.map (·.1)) tt.2).map V.str))
       refine ⟨l', _, rfl, .inl (SqL.of zB), _, _, rfl, rfl, _, rfl, ?_⟩
       generalize upd G2 l' (.lst ((sIn (L.map (·.1)) tt.2).map V.str)) = G3 at s3
       rw [yM htt, List.filter_append]
       have hh : (decide ((((sIn (L.map (·.1)) tt.2).map V.str).length : Int) > 0)) = hasT L tt := by
         unfold hasT
         rw [List.length_map]
         cases hc : sIn (L.map (·.1)) tt.2 with
         | nil => rfl
         | cons a r => exact decide_eq_true (by rw [List.length_cons]; omega)
       show if (decide ((((sIn (L.map (·.1)) tt.2).map V.str).length : Int) > 0)) = true then _ else _
       rw [hh]
       refine ite2 (fun c => ?_) (fun c => ?_)
       · refine ⟨_, rfl, _, rfl, (by show 2 ≤ sizeLine; decide), fun t2 ht2 => ?_⟩
         have s4 := zD ht2 (.tup [V.str tt.1, V.ref l])
         refine ⟨s2.trans (s3.trans s4), rs ++ [(.inr tt.1, .ref l)], ?_, ?_⟩
         · exact xE (zN hy fun _ _ ⟨b, e, hb⟩ => ⟨b, e, (sT.trans (s3.trans s4)) _ _ hb⟩) (.cons ⟨t2, rfl, zB⟩ .nil)
         · rw [List.filter_cons, if_pos c]
           exact xE hrs (.cons ⟨rfl, l, rfl, hl⟩ .nil)
       · refine ⟨s2.trans s3, rs, zN hy fun _ _ ⟨b, e, hb⟩ => ⟨b, e, (sT.trans s3) _ _ hb⟩, ?_⟩
         rw [List.filter_cons, if_neg c, List.filter_nil, List.append_nil]
         exact hrs
     · obtain ⟨s1, rs, hy, hrs⟩ := hw
       rw [lkv, List.take_length] at hrs
       have hrs : Paired (RwD H) rs (nxT L) := hrs
       have s2 := zD hp2 (.lst ys)
       refine ⟨p2, ys, rs, rfl, zB, zN hy fun _ _ ⟨b, e, hb⟩ => ⟨b, e, s2 _ _ hb⟩, fun d2 hd2 => ?_⟩
       rw [mkD_nd (rw_nd hrs (ndL.sublist (List.filter_sublist.map _)))]
       have s3 := sF'.trans (s1.trans s2)
       exact ⟨_, _, _, d2, rs, rfl, s3.trans (zD hd2 _), yF s3 hd2, zB, hrs, hprog⟩
   · obtain ⟨u1, u2, u3, d, kvs, rfl, sG, hdN, hdG, hrd, hc⟩ := hw
     exact hk _ _ ⟨_, _, _, d, kvs, rfl, sG, hdN, hdG, hrd, clo_end hc⟩
end
end K40
set_option maxHeartbeats 4000000
namespace K40
open PySem L2
seal PE PT PW PA PS PSs PG PGs PI PO PSet OpR UnR CallR TruR IxR SlR PC PPs
local macro_rules | `(tactic| walk_at "rd1") => `(tactic| first
 | (refine And.intro rfl ?_)
 | (refine And.intro (by assumption) ?_)
 | (refine And.intro (fun _ e => e) ?_)
 | (refine And.intro (TyOf.str _) ?_) | (refine And.intro (TyOf.int _) ?_) | (refine And.intro (TyOf.bl _) ?_) | (refine And.intro TyOf.non ?_)
 | (refine iteT ?_) | (refine iteF ?_)
 | (apply Exists.intro))
local macro_rules | `(tactic| walk_at "rd") => `(tactic| repeat (walk_at "rd1"))
abbrev oRe (A : Adr) (dx a d : Addr) : HO := .ins A.c_Reach dx [("paper", .ref a), ("spots", .ref d)]
def SpA (sh : List Sh) (G : Hp) (kvs : List (Key × V)) (Pd : Nat → Nat → Prop) : Prop := ∀ (i j : Nat) t r, sh[i]? = some t → t.rows[j]? = some r → Pd i j → ∃ tq, valV kvs (.inr r.1) = some (.ref tq) ∧ G tq = some (.tup [.int (i : Nat), .int (j : Nat)])
def UQ (sh : List Sh) : Prop := ∀ (i j : Nat) t r (i' j' : Nat) t' r', sh[i]? = some t → t.rows[j]? = some r → sh[i']? = some t' → t'.rows[j']? = some r' → r.1 = r'.1 → i = i' ∧ j = j'
def ReR (A : Adr) (sh : List Sh) (H : Hp) (p a : Addr) : Prop := ∃ dx d kvs, H p = some (oRe A dx a d) ∧ H d = some (.dK kvs) ∧ SpA sh H kvs fun _ _ => True
theorem SpA.same {sh : List Sh} {G G' : Hp} (s : Same G G') {kvs : List (Key × V)} {Pd : Nat → Nat → Prop} (h : SpA sh G kvs Pd) : SpA sh G' kvs Pd := fun i j t r ht hr hp => let ⟨tq, e, h1⟩ := h i j t r ht hr hp; ⟨tq, e, s _ _ h1⟩
theorem ReR.same {A : Adr} {sh : List Sh} {H H' : Hp} (s : Same H H') {p a : Addr} (h : ReR A sh H p a) : ReR A sh H' p a := let ⟨dx, d, kvs, h1, h2, h3⟩ := h; ⟨dx, d, kvs, s _ _ h1, s _ _ h2, h3.same s⟩
def bef (i j : Nat) : Nat → Nat → Prop := fun i' j' => i' < i ∨ i' = i ∧ j' < j
def spReI (A : Adr) : Sp := fun vs H Q _ => ∃ p dx a sh ts, vs = [.ref p, .ref a] ∧ H p = some (.ins A.c_Reach dx []) ∧ PaR A H a sh ts ∧ GP sh ts ∧ UQ sh ∧ ∀ H', Fr [p] H H' → ReR A sh H' p a → Q .non H'
section
variable {P : Program} {w : World} {K : W.Frag} {mg : Str → Option Value} {base : Heap} {A : Adr}
theorem ok_reach_init (T : Txt K mg A) : FnOk P w K mg base CX0 1 A.f_c_Reach___init A.d_c_Reach___init ["self", "paper"] (spReI A) := by
 refine T.F_c_Reach___init.ok sc_c_Reach___init (fun vs H Q E h => ?_) (fun cdv A0 outer s H vs Q E hr h => ?_)
 · obtain ⟨p, dx, a, sh, ts, rfl, _⟩ := h
   rfl
 obtain ⟨p, dx, a, sh, ts, rfl, hp, hP, hG, hq, k⟩ := h
 refine ⟨_, (zF (yV (pv 0) (pv 1) rfl)
     (zF (yV (pv 0) pe_dnewK rfl)
     (zH (ps_forR PassesOwn.never rfl (pi_enum rfl T.n_enumerate (zA (zO (pv 1) rfl) zC)) (pg_tup rfl (yD (zS (i := 2) sc_c_Reach___init.nd rfl (by first | exact Or.inl rfl | exact Or.inr rfl)) (yD (zS (i := 3) sc_c_Reach___init.nd rfl (by first | exact Or.inl rfl | exact Or.inr rfl)) xI))) (zH (ps_forR PassesOwn.never rfl (pi_enum rfl T.n_enumerate (zA (zO (pv 3) rfl) zC)) (pg_tup rfl (yD (zS (i := 4) sc_c_Reach___init.nd rfl (by first | exact Or.inl rfl | exact Or.inr rfl)) (yD (zS (i := 5) sc_c_Reach___init.nd rfl (by first | exact Or.inl rfl | exact Or.inr rfl)) xI))) (zH (yN (yY (yA yK (by rfl) T.n_isinstance Bt.isinstance (zA (pv 5) (zA (xL rfl T.v_Ask) zC)))) (zH (ps_dput (xN hr) (zO (pv 0) rfl) (zO (pv 5) rfl) (zM (zA (pv 2) (zA (pv 4) zC))) rfl)) zW)))))))), ?_⟩
 obtain ⟨dp, u, qa, qb, xs, p1, p2, p3, p8⟩ := hP
 have lxs := zL p3
 have h10 := hG.1
 refine ⟨_, rfl, _, rfl, p, _, dx, _, rfl, hp, T.cl_Reach, T.no_Reach_paper, by decide, ?_⟩
 intro d hd
 obtain ⟨nd, hdN⟩ := yX hd
 refine ⟨_, rfl, p, _, dx, _, rfl, (by rw [zK (Ne.symm nd)]; exact zB), T.cl_Reach, T.no_Reach_spots, (by show 1 < 1000; decide), ?_⟩
 generalize hGG : upd (upd (upd H p (.ins A.c_Reach dx (putF (Str.ofString "paper") (V.ref a) []))) d (.dK [])) p (.ins A.c_Reach dx (putF (Str.ofString "spots") (V.ref d) (putF (Str.ofString "paper") (V.ref a) []))) = H1
 have F1 : Fr [p] H H1 := by rw [← hGG]; exact (((Fr.of (Same.refl _)).upd (List.mem_singleton.mpr rfl) _).new hd _).upd (List.mem_singleton.mpr rfl) _
 have hp1 : H1 p = some (oRe A dx a d) := by rw [← hGG]; exact zB
 have hd1 : H1 d = some (.dK []) := by rw [← hGG, zK nd]; exact zB
 have np : p ≠ d := Ne.symm nd
 have nn : ∀ {G : Hp} {b : Addr} {o : HO}, Fr [d] H1 G → H b = some o → o ≠ .ins A.c_Reach dx [] → G b = some o := fun {G b o} F hb ho => F _ _ (F1 _ _ hb (ni1 (ne_of hb hp ho))) (ni1 (zI hb hdN))
 have ni : ∀ {C dy : Addr} {f : Str × V} {fs : List (Str × V)}, HO.ins C dy (f :: fs) ≠ .ins A.c_Reach dx [] := fun z => by injection z with z1 z2 z3; cases z3
 have nl : ∀ {l : List V}, HO.lst l ≠ .ins A.c_Reach dx [] := fun z => by cases z
 refine ⟨_, rfl, a, _, dp, _, _, rfl, nn (Fr.of (Same.refl _)) p1 ni, T.cl_Paper, T.no_Paper_sheets, (by rw [lk2 (by symm)]), qa, rfl, ⟨_, SqL.of (nn (Fr.of (Same.refl _)) p2 nl)⟩, ?_⟩
 refine for_enumR (xs := xs) (fun i σ G => ∃ u1 u2 u3 u4 kvs, σ = [some (.ref p), some (.ref a), u1, u2, u3, u4] ∧ Fr [d] H1 G ∧ G d = some (.dK kvs) ∧ kvs.length ≤ 3 * i ∧ SpA sh G kvs (bef i 0)) ⟨_, _, _, _, [], rfl, Fr.of (Same.refl _), hd1, Nat.le_refl _, fun i' j' _ _ _ _ h => by unfold bef at h; omega⟩ (fun i σ G _ hw => ?_) (fun i x σ G hxi hw Tt hT => ?_) (fun σ G hw => ?_)
 · obtain ⟨u1, u2, u3, u4, kvs, rfl, F, _⟩ := hw
   exact SqL.of (nn F p2 nl)
 · obtain ⟨u1, u2, u3, u4, kvs, rfl, F, hd', hk, hsp⟩ := hw
   obtain ⟨t, ht, sa, sdx, r, y, rs, ys, rfl, a1, a2, a3, a4, a5⟩ := yE p3 hxi
   have hi := (List.getElem?_eq_some_iff.mp ht).1
   have htg := (hG.2.1 t (List.mem_of_getElem? ht)).1
   have sT := zD hT (.tup [.int (i : Nat), .ref sa])
   have F2 := F.trans (Fr.of sT)
   refine ⟨Tt, _, rfl, SqT.of zB, rfl, _, _, rfl, _, _, rfl, rfl, ?_⟩
   have hd2 := sT _ _ hd'
   have hsp2 := hsp.same sT
   generalize upd G Tt (.tup [.int (i : Nat), .ref sa]) = G2 at F2 hd2 hsp2
   dsimp only [gName, List.set_cons_succ, List.set_cons_zero]
   refine ⟨_, rfl, sa, _, sdx, _, _, rfl, nn F2 a1 ni, T.cl_Sheet, T.no_Sheet_rows, rfl, r, rfl, ⟨_, SqL.of (nn F2 a2 nl)⟩, ?_⟩
   refine for_enumR (xs := rs) (fun j σ G => ∃ u3 u4 kvs, σ = [some (.ref p), some (.ref a), some (.int (i : Nat)), some (.ref sa), u3, u4] ∧ Fr [d] H1 G ∧ G d = some (.dK kvs) ∧ kvs.length ≤ 3 * i + j ∧ SpA sh G kvs (bef i j)) ⟨_, _, kvs, rfl, F2, hd2, hk, hsp2⟩ (fun j σ G _ hw => ?_) (fun j x σ G hxj hw T2 hT2 => ?_) (fun σ G hw => ?_)
   · obtain ⟨u3, u4, kvs, rfl, F, _⟩ := hw
     exact SqL.of (nn F a2 nl)
   · obtain ⟨u3, u4, kvs, rfl, F, hd', hk, hsp⟩ := hw
     obtain ⟨rw', hrw, ra, rdx, kd, dk, sv, fs, rfl, b1, b2, b3⟩ := yE a4 hxj
     have hjl := (List.getElem?_eq_some_iff.mp hrw).1
     have sT := zD hT2 (.tup [.int (j : Nat), .ref ra])
     have F2 := F.trans (Fr.of sT)
     refine ⟨T2, _, rfl, SqT.of zB, rfl, _, _, rfl, _, _, rfl, rfl, ?_⟩
     have hd2 := sT _ _ hd'
     have hsp2 := hsp.same sT
     generalize upd G T2 (.tup [.int (j : Nat), .ref ra]) = G3 at F2 hd2 hsp2
     dsimp only [gName, List.set_cons_succ, List.set_cons_zero]
     have hb1 := nn F2 b1 ni
     refine ⟨_, rfl, _, _, _, _, rfl, rfl, .old (T.ty_Ask G3 ra rdx _ hb1), T.kr_Ask_Ask, _, rfl, iteT ?_⟩
     refine ⟨_, rfl, _, rfl, (by show 2 ≤ sizeLine; decide), fun t2 ht2 => ?_⟩
     have s5 := zD ht2 (.tup [.int (i : Nat), .int (j : Nat)])
     have F3 := F2.trans (Fr.of s5)
     refine ⟨_, rfl, p, _, dx, _, _, rfl, F3 _ _ hp1 (ni1 np), T.cl_Reach, T.no_Reach_spots, (by rw [lk2 (by symm)]), _, rfl, ra, _, rdx, _, _, rfl, s5 _ _ hb1, T.cl_Ask, T.no_Ask_name, rfl, d, _, rfl, DPut.k (k := .inr rw'.1) (s5 _ _ hd2) (yP (m := 1000) (by omega)), ?_⟩
     refine ⟨_, _, _, rfl, F3.upd (List.mem_singleton.mpr rfl) _, zB, Nat.le_trans (xM ..) (by omega), fun i' j' t' r' ht' hr' hb' => ?_⟩
     have tq_ne : ∀ tq ts, (upd G3 t2 (.tup [.int (i : Nat), .int (j : Nat)])) tq = some (.tup ts) → (upd (upd G3 t2 (.tup [.int (i : Nat), .int (j : Nat)])) d (.dK (putK kvs (.inr rw'.1) (.ref t2)))) tq = some (.tup ts) := fun tq ts h => by
       rw [zK (ne_of h (s5 _ _ hd2) (by intro z; cases z))]; exact h
     by_cases c : i' = i ∧ j' = j
     · obtain ⟨rfl, rfl⟩ := c
       rw [ht] at ht'
       cases ht'
       rw [hrw] at hr'
       cases hr'
       exact ⟨t2, by rw [valV_put, if_pos rfl], tq_ne _ _ zB⟩
     · obtain ⟨tq, e1, e2⟩ := hsp2 i' j' t' r' ht' hr' (by unfold bef at hb' ⊢; omega)
       have hzq : r'.1 ≠ rw'.1 := fun e => c (hq i' j' t' r' i j t rw' ht' hr' ht hrw e)
       exact ⟨tq, by rw [valV_put, if_neg (fun h => hzq (Sum.inr.inj h))]; exact e1, tq_ne _ _ (s5 _ _ e2)⟩
   · obtain ⟨u3, u4, kvs, rfl, F, hd', hk, hsp⟩ := hw
     have lrs := zL a4
     refine ⟨_, _, _, _, kvs, rfl, F, hd', by omega, fun i' j' t' r' ht' hr' hb' => hsp i' j' t' r' ht' hr' ?_⟩
     unfold bef at hb' ⊢
     by_cases c : i' = i
     · subst c
       rw [ht] at ht'
       cases ht'
       have := (List.getElem?_eq_some_iff.mp hr').1
       omega
     · omega
 · obtain ⟨u1, u2, u3, u4, kvs, rfl, F, hd', hk, hsp⟩ := hw
   exact k G (fun b o hb hn => F _ _ (F1 _ _ hb hn) (ni1 (zI hb hdN))) ⟨dx, d, kvs, F _ _ hp1 (ni1 np), hd', fun i' j' t' r' ht' hr' _ => hsp i' j' t' r' ht' hr' (by have := (List.getElem?_eq_some_iff.mp ht').1; unfold bef; omega)⟩
end
end K40
set_option maxHeartbeats 4000000
namespace K40
open PySem L2
seal PE PT PW PA PS PSs PG PGs PI PO PSet OpR UnR CallR TruR IxR SlR PC PPs
local macro_rules | `(tactic| walk_at "rd1") => `(tactic| first
 | (refine And.intro rfl ?_)
 | (refine And.intro (by assumption) ?_)
 | (refine And.intro (fun _ e => e) ?_)
 | (refine And.intro (TyOf.str _) ?_) | (refine And.intro (TyOf.int _) ?_) | (refine And.intro (TyOf.bl _) ?_) | (refine And.intro TyOf.non ?_)
 | (refine iteT ?_) | (refine iteF ?_)
 | (apply Exists.intro))
local macro_rules | `(tactic| walk_at "rd") => `(tactic| repeat (walk_at "rd1"))
def Hr (H : Hp) (x : V) (i j : Nat) : Prop := ∃ t, x = .ref t ∧ H t = some (.tup [.int (i : Nat), .int (j : Nat)])
def Pl (sh : List Sh) (z : Str) (i j : Nat) : Prop := ∃ t r, sh[i]? = some t ∧ t.rows[j]? = some r ∧ r.1 = z
theorem ReR.at {A : Adr} {sh : List Sh} {H : Hp} {p a : Addr} (h : ReR A sh H p a) {z : Str} {i j : Nat} (hp : Pl sh z i j) : ∃ dx d kvs tq, H p = some (oRe A dx a d) ∧ H d = some (.dK kvs) ∧ DGet H d (.str z) (some (.ref tq)) ∧ H tq = some (.tup [.int (i : Nat), .int (j : Nat)]) := by
 obtain ⟨dx, d, kvs, h1, h2, h3⟩ := h
 obtain ⟨t, r, ht, hr, rfl⟩ := hp
 obtain ⟨tq, e1, e2⟩ := h3 i j t r ht hr trivial
 have hget := DGet.k (k := .inr r.1) h2
 rw [e1] at hget
 exact ⟨dx, d, kvs, tq, h1, h2, hget, e2⟩
theorem pl_lt {sh : List Sh} {z : Str} {i j : Nat} (h : Pl sh z i j) : i < sh.length := by obtain ⟨t, r, ht, _⟩ := h; exact (List.getElem?_eq_some_iff.mp ht).1
theorem pl_uq {sh : List Sh} (hq : UQ sh) {z : Str} {i j i' j' : Nat} (h : Pl sh z i j) (k : Pl sh z i' j') : i = i' ∧ j = j' := by
 obtain ⟨t, r, h1, h2, h3⟩ := h
 obtain ⟨t', r', k1, k2, k3⟩ := k
 exact hq i j t r i' j' t' r' h1 h2 k1 k2 (h3.trans k3.symm)
open Classical in
noncomputable def rcFl (sh : List Sh) (s k : Nat) : Option At → List Flt
 | none => []
 | some a => if ∃ i j, Pl sh a.nm i j ∧ bef s k i j then [] else [(.re, a.nm)]
def sysOf (t : Sh) : List (Option At) := t.rows.map (·.2) ++ t.ways.map (·.2)
noncomputable def shRc (sh : List Sh) (i : Nat) (t : Sh) : List Flt := ((sysOf t).mapIdx (rcFl sh i)).flatten
noncomputable def rcAll (sh : List Sh) : List Flt := (sh.mapIdx (shRc sh)).flatten
def GS (sh : List Sh) : Prop := ∀ t ∈ sh, ∀ o ∈ sysOf t, ∀ a, o = some a → (∃ i j, Pl sh a.nm i j) ∧ a.nm.length ≤ 100
def spCA (A : Adr) : Sp := fun vs H Q _ => ∃ p a z sh ts i j, vs = [.ref p, .str z] ∧ ReR A sh H p a ∧ PaR A H a sh ts ∧ Pl sh z i j ∧ Q (.bl false) H
def spIW (A : Adr) : Sp := fun vs H Q _ => ∃ p a z sh ts i j x s k, vs = [.ref p, .str z, x] ∧ ReR A sh H p a ∧ PaR A H a sh ts ∧ Pl sh z i j ∧ Hr H x s k ∧ s < sh.length ∧ ∀ b, Q (.bl b) H
open Classical in
def spRQ (A : Adr) : Sp := fun vs H Q _ => ∃ p a z sh ts i j x s k, vs = [.ref p, .str z, x] ∧ ReR A sh H p a ∧ PaR A H a sh ts ∧ Pl sh z i j ∧ Hr H x s k ∧ s < sh.length ∧ Q (.bl (decide (bef s k i j))) H
def spRS (A : Adr) : Sp := fun vs H Q E => ∃ p a sh ts x s k v o, vs = [.ref p, v, x] ∧ ReR A sh H p a ∧ PaR A H a sh ts ∧ UQ sh ∧ Hr H x s k ∧ s < sh.length ∧ SyR A H v o ∧ (∀ a, o = some a → (∃ i j, Pl sh a.nm i j) ∧ a.nm.length ≤ 100) ∧ (rcFl sh s k o = [] → ∀ H', Same H H' → Q .non H') ∧ ∀ f r, rcFl sh s k o = f :: r → XR A H E f
def spRSh (A : Adr) : Sp := fun vs H Q E => ∃ (p a : Addr) (sh : List Sh) (ts : List Tot) (i : Nat) (t : Sh), vs = [.ref p, .int (i : Nat)] ∧ ReR A sh H p a ∧ PaR A H a sh ts ∧ GP sh ts ∧ UQ sh ∧ GS sh ∧ sh[i]? = some t ∧ (shRc sh i t = [] → ∀ H', Same H H' → Q .non H') ∧ ∀ f r, shRc sh i t = f :: r → XR A H E f
def spLRe (A : Adr) : Sp := fun vs H Q E => ∃ a sh ts, vs = [.ref a] ∧ PaR A H a sh ts ∧ GP sh ts ∧ UQ sh ∧ GS sh ∧ (rcAll sh = [] → ∀ H', Same H H' → Q .non H') ∧ ∀ f r, rcAll sh = f :: r → XR A H E f
section
variable {P : Program} {w : World} {K : W.Frag} {mg : Str → Option Value} {base : Heap} {A : Adr}
theorem ok_ca (T : Txt K mg A) : FnOk P w K mg base CX0 1 A.f_c_Reach_comes_again A.d_c_Reach_comes_again ["self", "question"] (spCA A) := by
 refine T.F_c_Reach_comes_again.ok sc_c_Reach_comes_again (fun vs H Q E h => ?_) (fun cdv A0 outer s H vs Q E hr h => ?_)
 · obtain ⟨p, a, z, sh, ts, i, j, rfl, _⟩ := h
   rfl
 obtain ⟨p, a, z, sh, ts, i, j, rfl, hR, ⟨dp, u, qa, qb, xs, p1, p2, p3, _⟩, hpl, k⟩ := h
 refine ⟨_, (zH (zY (pe_cmpR op_notN (zO (xK xG (zO (zO (pv 0) rfl) rfl) (xK ix_tup (pe_dget (xN hr) (zO (pv 0) rfl) (pv 1) (fun _ _ => rfl)) zJ (fun _ _ => rfl)) (fun _ _ => rfl)) rfl) pe_non (yJ _)))), ?_⟩
 obtain ⟨dx, d, kvs, tq, hp, hd, hget, htq⟩ := hR.at hpl
 obtain ⟨t, ht⟩ : ∃ t, sh[i]? = some t := ⟨_, List.getElem?_eq_getElem (pl_lt hpl)⟩
 obtain ⟨xv, hxv, sa, sdx, r, y, rs, ys, rfl, a1, _⟩ := xJ p3 ht
 exact ⟨_, rfl, p, _, dx, _, _, rfl, hp, T.cl_Reach, T.no_Reach_paper, rfl, a, _, dp, _, _, rfl, p1, T.cl_Paper, T.no_Paper_sheets, (by rw [lk2 (by symm)]), _, rfl, p, _, dx, _, _, rfl, hp, T.cl_Reach, T.no_Reach_spots, (by rw [lk2 (by symm)]), _, rfl, d, _, rfl, hget, tq, _, _, _, rfl, rfl, SqT.of htq, yS (j := 0) rfl, qa, _, _, _, rfl, rfl, SqL.of p2, yS hxv, sa, _, sdx, _, _, rfl, a1, T.cl_Sheet, T.no_Sheet_each, rfl, rfl, k⟩
theorem ok_iw (T : Txt K mg A) : FnOk P w K mg base CX0 1 A.f_c_Reach_is_within A.d_c_Reach_is_within ["self", "question", "here"] (spIW A) := by
 refine T.F_c_Reach_is_within.ok sc_c_Reach_is_within (fun vs H Q E h => ?_) (fun cdv A0 outer s H vs Q E hr h => ?_)
 · obtain ⟨p, a, z, sh, ts, i, j, x, s', k', rfl, _⟩ := h
   rfl
 obtain ⟨p, a, z, sh, ts, i, j, x, s', k', rfl, hR, ⟨dp, u, qa, qb, xs, p1, p2, p3, _⟩, hpl, ⟨t, rfl, ht⟩, hs, k⟩ := h
 refine ⟨_, (zH (zY (pe_and (pe_cmpR op_eq (xK ix_tup (pe_dget (xN hr) (zO (pv 0) rfl) (pv 1) (fun _ _ => rfl)) zJ (fun _ _ => rfl)) (xK ix_tup (pv 2) zJ (fun _ _ => rfl)) (yJ _)) (pe_one (pe_cmpR op_lt (xK ix_tup (pv 2) zJ (fun _ _ => rfl)) (yA yW (by rfl) T.n_len PySem.boot_len (zA (zO (xK xG (zO (zO (pv 0) rfl) rfl) (xK ix_tup (pv 2) zJ (fun _ _ => rfl)) (fun _ _ => rfl)) rfl) zC)) (yJ _)))))), ?_⟩
 obtain ⟨dx, d, kvs, tq, hp, hd, hget, htq⟩ := hR.at hpl
 obtain ⟨t', ht'⟩ : ∃ t, sh[s']? = some t := ⟨_, List.getElem?_eq_getElem hs⟩
 obtain ⟨xv, hxv, sa, sdx, r, y, rs, ys, rfl, a1, a2, _⟩ := xJ p3 ht'
 refine ⟨_, rfl, p, _, dx, _, _, rfl, hp, T.cl_Reach, T.no_Reach_spots, (by rw [lk2 (by symm)]), _, rfl, d, _, rfl, hget, tq, _, _, _, rfl, rfl, SqT.of htq, yS (j := 0) rfl, _, rfl, t, _, _, _, rfl, rfl, SqT.of ht, yS (j := 0) rfl, rfl, _, rfl, ite2 (fun c => ?_) (fun c => ?_)⟩
 · exact ⟨_, rfl, t, _, _, _, rfl, rfl, SqT.of ht, yS (j := 1) rfl, _, rfl, p, _, dx, _, _, rfl, hp, T.cl_Reach, T.no_Reach_paper, rfl, a, _, dp, _, _, rfl, p1, T.cl_Paper, T.no_Paper_sheets, (by rw [lk2 (by symm)]), _, rfl, t, _, _, _, rfl, rfl, SqT.of ht, yS (j := 0) rfl, qa, _, _, _, rfl, rfl, SqL.of p2, yS hxv, sa, _, sdx, _, _, rfl, a1, T.cl_Sheet, T.no_Sheet_rows, rfl, r, _, rfl, .inl (SqL.of a2), _, _, rfl, rfl, k _⟩
 · exact k _
def JCA (T : Txt K mg A) : MethJ P w K mg base CX0 2 A.c_Reach "comes_again" := ⟨_, _, _, _, [], [], T.cl_Reach, T.me_Reach_comes_again, (ok_ca T).mono (by decide), T.b_c_Reach_comes_again, .nil⟩
def JIW (T : Txt K mg A) : MethJ P w K mg base CX0 2 A.c_Reach "is_within" := ⟨_, _, _, _, [], [], T.cl_Reach, T.me_Reach_is_within, (ok_iw T).mono (by decide), T.b_c_Reach_is_within, .nil⟩
theorem ok_rq (T : Txt K mg A) : FnOk P w K mg base CX0 4 A.f_c_Reach_reaches_question A.d_c_Reach_reaches_question ["self", "question", "here"] (spRQ A) := by
 refine T.F_c_Reach_reaches_question.ok sc_c_Reach_reaches_question (fun vs H Q E h => ?_) (fun cdv A0 outer s H vs Q E hr h => ?_)
 · obtain ⟨p, a, z, sh, ts, i, j, x, s', k', rfl, _⟩ := h
   rfl
 obtain ⟨p, a, z, sh, ts, i, j, x, s', k', rfl, hR, hP, hpl, hx, hs, k⟩ := h
 refine ⟨_, (zF (zX (i := 3) sc_c_Reach_reaches_question.nd rfl (by first | exact Or.inl rfl | exact Or.inr rfl) (pe_or (xH (CX := CX0) (k := 2) (hr.mono (by first | decide | omega)) yB (pv 0) (zA (pv 1) (zA (pv 2) zC))) (pe_one (pe_not (xH (CX := CX0) (k := 2) (hr.mono (by first | decide | omega)) yB (pv 0) (zA (pv 1) zC))))))
     (zH (zY (pe_and (pe_cmpR (op_ltT (Nat.lt_of_succ_lt (xN hr))) (pe_dget (xN hr) (zO (pv 0) rfl) (pv 1) (fun _ _ => rfl)) (pv 2) (yJ _)) (pe_one (pv 3)))))), ?_⟩
 obtain ⟨dx, d, kvs, tq, hp, hd, hget, htq⟩ := hR.at hpl
 obtain ⟨t, rfl, ht⟩ := id hx
 have lx : HT.lexLt [((i : Nat) : Int), ((j : Nat) : Int)] [((s' : Nat) : Int), ((k' : Nat) : Int)] = @decide (bef s' k' i j) (Classical.propDecidable _) := by
   rw [HT.lexLt_cons]
   by_cases e : i = s'
   · subst e
     rw [if_pos rfl, HT.lexLt_cons]
     by_cases e2 : j = k'
     · subst e2
       rw [if_pos rfl]
       exact (@decide_eq_false _ (Classical.propDecidable _) (fun h => by unfold bef at h; omega)).symm
     · rw [if_neg (fun z => e2 (by omega))]
       exact decide_eq_decide.mpr ⟨fun h => .inr ⟨rfl, by omega⟩, fun h => by unfold bef at h; omega⟩
   · rw [if_neg (fun z => e (by omega))]
     exact decide_eq_decide.mpr ⟨fun h => .inl (by omega), fun h => by unfold bef at h; omega⟩
 have fin : ∀ known : Bool, known = true → (if @decide (bef s' k' i j) (Classical.propDecidable _) = true then Q (.bl known) H else Q (.bl (@decide (bef s' k' i j) (Classical.propDecidable _))) H) := fun known e => by
   subst e
   by_cases c : @decide (bef s' k' i j) (Classical.propDecidable _) = true
   · rw [if_pos c, ← c]; exact k
   · rw [if_neg c]; exact k
 refine ⟨_, rfl, p, _, dx, _, JIW T, rfl, hp, rfl, _, rfl, _, rfl, p, a, z, sh, ts, i, j, _, s', k', rfl, hR, hP, hpl, hx, hs, fun b => ?_⟩
 cases b with
 | true =>
   refine ⟨_, rfl, iteT ?_⟩
   refine ⟨_, rfl, p, _, dx, _, _, rfl, hp, T.cl_Reach, T.no_Reach_spots, (by rw [lk2 (by symm)]), _, rfl, d, _, rfl, hget, _, rfl, tq, t, [((i : Nat) : Int), ((j : Nat) : Int)], [((s' : Nat) : Int), ((k' : Nat) : Int)], rfl, rfl, SqT.of htq, SqT.of ht, _, rfl, ?_⟩
   rw [lx]
   exact ite2 (fun c => ⟨_, rfl, by have := fin true rfl; rw [if_pos c] at this; exact this⟩) (fun c => by have := fin true rfl; rw [if_neg c, (Bool.not_eq_true _).mp c] at this; exact this)
 | false =>
   refine ⟨_, rfl, iteF ?_⟩
   refine ⟨_, rfl, p, _, dx, _, JCA T, rfl, hp, rfl, _, rfl, p, a, z, sh, ts, i, j, rfl, hR, hP, hpl, _, rfl, ?_⟩
   refine ⟨_, rfl, p, _, dx, _, _, rfl, hp, T.cl_Reach, T.no_Reach_spots, (by rw [lk2 (by symm)]), _, rfl, d, _, rfl, hget, _, rfl, tq, t, [((i : Nat) : Int), ((j : Nat) : Int)], [((s' : Nat) : Int), ((k' : Nat) : Int)], rfl, rfl, SqT.of htq, SqT.of ht, _, rfl, ?_⟩
   rw [lx]
   exact ite2 (fun c => ⟨_, rfl, by have := fin true rfl; rw [if_pos c] at this; exact this⟩) (fun c => by have := fin true rfl; rw [if_neg c, (Bool.not_eq_true _).mp c] at this; exact this)
def JRQ (T : Txt K mg A) : MethJ P w K mg base CX0 5 A.c_Reach "reaches_question" := ⟨_, _, _, _, [], [], T.cl_Reach, T.me_Reach_reaches_question, (ok_rq T).mono (by decide), T.b_c_Reach_reaches_question, .nil⟩
theorem ok_rs (T : Txt K mg A) : FnOk P w K mg base (CXW P w) 6 A.f_c_Reach_look_at_saying A.d_c_Reach_look_at_saying ["self", "saying", "here"] (spRS A) := by
 have G_atoms_of := ok_atoms_of (P := P) (w := w) (base := base) T
 have G_c_OutOfReach___init := ok_re_init (P := P) (w := w) (base := base) T
 refine T.F_c_Reach_look_at_saying.okX sc_c_Reach_look_at_saying (fun vs H Q E h => ?_) (fun cdv A0 outer s H vs Q E hr h => ?_)
 · obtain ⟨p, a, sh, ts, x, i, j, v, o, rfl, _⟩ := h
   rfl
 obtain ⟨p, a, sh, ts, x, i, j, v, o, rfl, hR, hP, hu, hx, hi, hS, ho, q1, q2⟩ := h
 refine ⟨_, (zH (PS.inL (ps_forL (yR (zV G_atoms_of (hr.mono (by first | decide | omega)) rfl T.m_atoms_of T.k_atoms_of T.b_atoms_of .nil yB (zA (pv 1) zC))) (zS (i := 3) sc_c_Reach_look_at_saying.nd rfl (by first | exact Or.inl rfl | exact Or.inr rfl)) (zF (zX (i := 4) sc_c_Reach_look_at_saying.nd rfl (by first | exact Or.inl rfl | exact Or.inr rfl) (pe_cmpR (op_in_d (xN hr)) (zO (pv 3) rfl) (zO (pv 0) rfl) (by rfl)))
     (zH (yN (pt_not (pt_ifExp (yY (pv 4)) (yY (xH (CX := CX0) (k := 5) (hr.mono (by first | decide | omega)) yB (pv 0) (zA (zO (pv 3) rfl) (zA (pv 2) zC)))) (yY pe_no))) (zH (ps_raiseL T.mx_OutOfReach G_c_OutOfReach___init (hr.mono (by first | decide | omega)) T.b_c_OutOfReach___init T.m_OutOfReach (zA (zO (pv 3) rfl) zC) rfl)) zW)))))), ?_⟩
 refine ⟨_, rfl, v, o, rfl, hS, fun l H1 s1 hl => ⟨l, rfl, ⟨_, SqL.of hl⟩, ?_⟩⟩
 cases o with
 | none =>
   refine yQ (xs := []) (fun i σ H' => H1 = H') rfl (fun i σ H' _ hw => hw ▸ SqL.of hl) (fun i x σ H' hx _ => by simp at hx) (fun σ H' hw => ?_)
   subst hw
   exact q1 rfl _ s1
 | some at' =>
   obtain ⟨⟨i', j', hpl⟩, hlen⟩ := ho at' rfl
   obtain ⟨s', rfl, hs⟩ := hS
   have hfl : rcFl sh i j (some at') = if @decide (bef i j i' j') (Classical.propDecidable _) = true then [] else [(.re, at'.nm)] := by
     show (@ite _ (∃ i' j', Pl sh at'.nm i' j' ∧ bef i j i' j') (Classical.propDecidable _) [] [(Fc.re, at'.nm)]) = _
     by_cases c : bef i j i' j'
     · rw [if_pos ⟨i', j', hpl, c⟩, if_pos (@decide_eq_true _ (Classical.propDecidable _) c)]
     · rw [if_neg (fun h => ?_), if_neg (fun h => c (@of_decide_eq_true _ (Classical.propDecidable _) h))]
       obtain ⟨i2, j2, h1, h2⟩ := h
       obtain ⟨rfl, rfl⟩ := pl_uq hu hpl h1
       exact c h2
   refine yQ (xs := [.ref s']) (fun n σ G => H1 = G ∧ (0 < n → rcFl sh i j (some at') = []) ∧ ∃ u1 u2, σ = [some (.ref p), some (.ref s'), some x, u1, u2]) ⟨rfl, (fun h => by omega), _, _, rfl⟩ (fun n σ G _ hw => hw.1 ▸ SqL.of hl) (fun n y σ G hy hw => ?_) (fun σ G hw => q1 (hw.2.1 (by show 0 < 1; decide)) _ (hw.1 ▸ s1))
   obtain ⟨rfl, _, u1, u2, rfl⟩ := hw
   obtain ⟨rfl, rfl⟩ : n = 0 ∧ y = .ref s' := by
     cases n with
     | zero => cases hy; exact ⟨rfl, rfl⟩
     | succ n => simp at hy
   have hR1 := hR.same s1
   obtain ⟨dx, d, kvs, tq, hp, hd, hget, htq⟩ := hR1.at hpl
   have hx1 : Hr H1 x i j := let ⟨t, e, h⟩ := hx; ⟨t, e, s1 _ _ h⟩
   cases at' with
   | is z b =>
     obtain ⟨ds, hs⟩ := hs
     refine ⟨_, rfl, s', _, ds, _, _, rfl, s1 _ _ hs, T.cl_Is, T.no_Is_name, rfl, _, rfl, p, _, dx, _, _, rfl, hp, T.cl_Reach, T.no_Reach_spots, (by rw [lk2 (by symm)]), d, _, rfl, hget, ?_⟩
     refine ⟨_, rfl, _, rfl, iteT ?_⟩
     refine ⟨_, rfl, p, _, dx, _, JRQ T, rfl, hp, rfl, _, rfl, s', _, ds, _, _, rfl, s1 _ _ hs, T.cl_Is, T.no_Is_name, rfl, _, rfl, p, a, z, sh, ts, i', j', x, i, j, rfl, hR1, hP.same s1, hpl, hx1, hi, _, rfl, ?_⟩
     by_cases c : @decide (bef i j i' j') (Classical.propDecidable _) = true
     · rw [if_pos c] at hfl
       rw [c]
       exact iteF ⟨rfl, fun _ => hfl, _, _, rfl⟩
     · rw [if_neg c] at hfl
       rw [(Bool.not_eq_true _).mp c]
       refine iteT ⟨_, rfl, s', _, ds, _, _, rfl, s1 _ _ hs, T.cl_Is, T.no_Is_name, rfl, (by show 1 ≤ sizeLine; decide), fun e he => raised he (by have : z.length ≤ 100 := hlen; omega) fun dx' G2 s17 h17 => ?_⟩
       exact q2 _ _ hfl dx' G2 (s1.trans s17) fun _ => h17
   | cmp z b =>
     obtain ⟨ds, hs⟩ := hs
     refine ⟨_, rfl, s', _, ds, _, _, rfl, s1 _ _ hs, T.cl_Compare, T.no_Compare_name, rfl, _, rfl, p, _, dx, _, _, rfl, hp, T.cl_Reach, T.no_Reach_spots, (by rw [lk2 (by symm)]), d, _, rfl, hget, ?_⟩
     refine ⟨_, rfl, _, rfl, iteT ?_⟩
     refine ⟨_, rfl, p, _, dx, _, JRQ T, rfl, hp, rfl, _, rfl, s', _, ds, _, _, rfl, s1 _ _ hs, T.cl_Compare, T.no_Compare_name, rfl, _, rfl, p, a, z, sh, ts, i', j', x, i, j, rfl, hR1, hP.same s1, hpl, hx1, hi, _, rfl, ?_⟩
     by_cases c : @decide (bef i j i' j') (Classical.propDecidable _) = true
     · rw [if_pos c] at hfl
       rw [c]
       exact iteF ⟨rfl, fun _ => hfl, _, _, rfl⟩
     · rw [if_neg c] at hfl
       rw [(Bool.not_eq_true _).mp c]
       refine iteT ⟨_, rfl, s', _, ds, _, _, rfl, s1 _ _ hs, T.cl_Compare, T.no_Compare_name, rfl, (by show 1 ≤ sizeLine; decide), fun e he => raised he (by have : z.length ≤ 100 := hlen; omega) fun dx' G2 s17 h17 => ?_⟩
       exact q2 _ _ hfl dx' G2 (s1.trans s17) fun _ => h17
end
end K40
set_option maxHeartbeats 4000000
namespace K40
open PySem L2
seal PE PT PW PA PS PSs PG PGs PI PO PSet OpR UnR CallR TruR IxR SlR PC PPs
local macro_rules | `(tactic| walk_at "rd1") => `(tactic| first
 | (refine And.intro rfl ?_)
 | (refine And.intro (by assumption) ?_)
 | (refine And.intro (fun _ e => e) ?_)
 | (refine And.intro (TyOf.str _) ?_) | (refine And.intro (TyOf.int _) ?_) | (refine And.intro (TyOf.bl _) ?_) | (refine And.intro TyOf.non ?_)
 | (refine iteT ?_) | (refine iteF ?_)
 | (apply Exists.intro))
local macro_rules | `(tactic| walk_at "rd") => `(tactic| repeat (walk_at "rd1"))
section
variable {P : Program} {w : World} {K : W.Frag} {mg : Str → Option Value} {base : Heap} {A : Adr}
def JRS (T : Txt K mg A) : MethJ P w K mg base (CXW P w) 7 A.c_Reach "look_at_saying" := ⟨_, _, _, _, [], [], T.cl_Reach, T.me_Reach_look_at_saying, (ok_rs T).mono (by decide), T.b_c_Reach_look_at_saying, .nil⟩
theorem ok_rsh (T : Txt K mg A) : FnOk P w K mg base (CXW P w) 8 A.f_c_Reach_look_at_sheet A.d_c_Reach_look_at_sheet ["self", "place"] (spRSh A) := by
 have G_saying_of := ok_saying_of (P := P) (w := w) (base := base) T
 have G_c_OutOfReach___init := ok_re_init (P := P) (w := w) (base := base) T
 refine T.F_c_Reach_look_at_sheet.okX sc_c_Reach_look_at_sheet (fun vs H Q E h => ?_) (fun cdv A0 outer s H vs Q E hr h => ?_)
 · obtain ⟨p, a, sh, ts, i, t, rfl, _⟩ := h
   rfl
 obtain ⟨p, a, sh, ts, i, t, rfl, hR, hP, hG, hu, hS, ht, q1, q2⟩ := h
 have hi := (List.getElem?_eq_some_iff.mp ht).1
 refine ⟨_, (zF (zX (i := 2) sc_c_Reach_look_at_sheet.nd rfl (by first | exact Or.inl rfl | exact Or.inr rfl) (xK xG (zO (zO (pv 0) rfl) rfl) (pv 1) (fun _ _ => rfl)))
     (zF (yN (PW.pt (pw_and (yC op_notN (zO (pv 2) rfl) pe_non (yJ _)) (pw_and1 (pt_not (yY (xH (CX := CX0) (k := 5) (hr.mono (by first | decide | omega)) yB (pv 0) (zA (zO (pv 2) rfl) (zA (zM (zA (pv 1) (zA zJ zC))) zC)))))))) (zH (ps_raiseI T.mx_OutOfReach G_c_OutOfReach___init (hr.mono (by first | decide | omega)) T.b_c_OutOfReach___init T.m_OutOfReach (zA (zO (pv 2) rfl) zC) rfl)) zW)
     (zF (zX (i := 3) sc_c_Reach_look_at_sheet.nd rfl (by first | exact Or.inl rfl | exact Or.inr rfl) (zU op_cat (pe_compR (xF (x := "row") (M := ["self", "place", "sheet", "sayings", "spot", "saying"]) rfl (by rfl)) rfl (yR (zO (pv 2) rfl)) (fun _ _ _ _ => (zV G_saying_of (hr.mono (by first | decide | omega)) rfl T.m_saying_of T.k_saying_of T.b_saying_of .nil yB (zA (pv 0) zC)))) (pe_compT (compOk2_of (xF (x := "target") (M := ["self", "place", "sheet", "sayings", "spot", ""]) rfl (by rfl)) (by rfl) (by symm)) rfl (yR (zO (pv 2) rfl)) (fun _ _ _ _ => pifs_nil) (fun _ _ _ _ => (pv 1)))))
     (zH (PS.inL (ps_forL (pi_enum rfl T.n_enumerate (zA (pv 3) zC)) (pg_tup rfl (yD (zS (i := 4) sc_c_Reach_look_at_sheet.nd rfl (by first | exact Or.inl rfl | exact Or.inr rfl)) (yD (zS (i := 5) sc_c_Reach_look_at_sheet.nd rfl (by first | exact Or.inl rfl | exact Or.inr rfl)) xI))) (zH (yI (xH (CX := CXW P w) (k := 7) (hr.mono (by first | decide | omega)) passL (pv 0) (zA (pv 5) (zA (zM (zA (pv 1) (zA (pv 4) zC))) zC))))))))))), ?_⟩
 obtain ⟨dx, d, kvs, hp, _⟩ := id hR
 obtain ⟨dp, u, qa, qb, xs, p1, p2, p3, p8⟩ := id hP
 obtain ⟨xv, hxv, sa, sdx, r, y, rs, ys, rfl, a1, a2, a3, a4, a5⟩ := xJ p3 ht
 have htg := hG.2.1 t (List.mem_of_getElem? ht)
 have hSt := hS t (List.mem_of_getElem? ht)
 refine ⟨_, rfl, p, _, dx, _, _, rfl, hp, T.cl_Reach, T.no_Reach_paper, rfl, a, _, dp, _, _, rfl, p1, T.cl_Paper, T.no_Paper_sheets, (by rw [lk2 (by symm)]), _, rfl, qa, _, _, _, rfl, rfl, SqL.of p2, yS hxv, ?_⟩
 refine ⟨_, rfl, sa, _, sdx, _, _, rfl, a1, T.cl_Sheet, T.no_Sheet_each, rfl, rfl, _, rfl, iteF (iteF ?_)⟩
 refine ⟨_, rfl, sa, _, sdx, _, _, rfl, a1, T.cl_Sheet, T.no_Sheet_rows, rfl, r, rfl, ⟨_, SqL.of a2⟩, ?_⟩
 refine comp_listR (xs := rs) (yP (m := 100) (by rw [zL a4]; omega)) (fun j zs G => H = G ∧ Paired (SyR A H) zs ((t.rows.take j).map (·.2))) ⟨rfl, .nil⟩ (fun j zs G hw => hw.1 ▸ SqL.of a2) (fun j x zs G hxj _ hw => ?_) (fun zs G _ hw l1 hl1 => ?_)
 · obtain ⟨rfl, hz⟩ := hw
   obtain ⟨rw', hrw, hrr⟩ := yE a4 hxj
   refine ⟨_, rfl, x, rw', rfl, hrr, fun v hv => ⟨rfl, ?_⟩⟩
   rw [yM hrw, List.map_append]
   exact xE hz (.cons hv .nil)
 obtain ⟨rfl, hz⟩ := hw
 rw [zL a4, List.take_length] at hz
 have s1 := zD hl1 (.lst zs)
 have h1 : (upd H l1 (.lst zs)) l1 = some (.lst zs) := zB
 generalize upd H l1 (.lst zs) = H1 at s1 h1
 refine ⟨_, rfl, sa, _, sdx, _, _, rfl, s1 _ _ a1, T.cl_Sheet, T.no_Sheet_ways, rfl, y, rfl, ⟨_, SqL.of (s1 _ _ a3)⟩, ?_⟩
 refine comp_listT (xs := ys) (yP (m := 100) (by rw [zL a5]; omega)) (fun j zs' G => H1 = G ∧ Paired (SyR A H) zs' ((t.ways.take j).map (·.2))) ⟨rfl, .nil⟩ (fun j zs' G hw => hw.1 ▸ SqL.of (s1 _ _ a3)) (fun j x zs' G hxj _ hw => ?_) (fun zs' G hw l2 hl2 => ?_)
 · obtain ⟨rfl, hz'⟩ := hw
   obtain ⟨yw, hyw, ta, v, rfl, hta, hv⟩ := yE a5 hxj
   refine ⟨ta, _, _, rfl, SqT.of (s1 _ _ hta), tt_true ⟨_, rfl, rfl, ?_⟩⟩
   rw [yM hyw, List.map_append]
   exact xE hz' (.cons hv .nil)
 obtain ⟨rfl, hz'⟩ := hw
 rw [zL a5, List.take_length] at hz'
 have lz : zs.length ≤ 3 := by rw [zL hz, List.length_map]; exact htg.1
 have lz' : zs'.length ≤ 10 := by rw [zL hz', List.length_map]; exact htg.2
 have s2 := zD hl2 (.lst zs')
 refine ⟨l1, l2, _, _, rfl, rfl, s2 _ _ h1, zB, (by rw [sizeLine_eq]; omega), fun l3 hl3 => ?_⟩
 have s3 := s1.trans (s2.trans (zD hl3 (.lst (zs ++ zs'))))
 have h3 : (upd (upd H1 l2 (.lst zs')) l3 (.lst (zs ++ zs'))) l3 = some (.lst (zs ++ zs')) := zB
 dsimp only [gName, List.set_cons_succ, List.set_cons_zero]
 generalize upd (upd H1 l2 (.lst zs')) l3 (.lst (zs ++ zs')) = H2 at s3 h3
 have hall := xE hz hz'
 refine ⟨_, rfl, l3, rfl, ⟨_, SqL.of h3⟩, ?_⟩
 refine for_enumR (xs := zs ++ zs') (fun j σ G => Same H2 G ∧ (((sysOf t).mapIdx (rcFl sh i)).take j).flatten = [] ∧ ∃ u1 u2, σ = [some (.ref p), some (.int (i : Nat)), some (.ref sa), some (.ref l3), u1, u2]) ⟨Same.refl _, rfl, _, _, rfl⟩ (fun j σ G _ hw => SqL.of (hw.1 _ _ h3)) (fun j x σ G hxj hw Tt hT => ?_) (fun σ G hw => q1 (by have := hw.2.1; rw [show (zs ++ zs').length = ((sysOf t).mapIdx (rcFl sh i)).length by rw [List.length_mapIdx]; exact zL hall, List.take_length] at this; exact this) _ (s3.trans hw.1))
 obtain ⟨s4, hn, u1, u2, rfl⟩ := hw
 obtain ⟨o, ho, hSy⟩ := yE hall hxj
 have ho : (sysOf t)[j]? = some o := ho
 have hmi : ((sysOf t).mapIdx (rcFl sh i))[j]? = some (rcFl sh i j o) := by rw [List.getElem?_mapIdx, ho]; rfl
 have sT := zD hT (.tup [.int (j : Nat), x])
 refine ⟨Tt, _, rfl, SqT.of zB, rfl, _, _, rfl, _, _, rfl, rfl, ?_⟩
 generalize upd G Tt (.tup [.int (j : Nat), x]) = G1 at sT
 dsimp only [gName, List.set_cons_succ, List.set_cons_zero]
 have s5 := s3.trans (s4.trans sT)
 refine ⟨_, rfl, p, _, dx, _, JRS T, rfl, s5 _ _ hp, rfl, _, rfl, _, rfl, _, rfl, (by show 2 ≤ sizeLine; decide), fun t2 ht2 => ?_⟩
 have s6 := zD ht2 (.tup [.int (i : Nat), .int (j : Nat)])
 refine ⟨p, a, sh, ts, _, i, j, x, o, rfl, hR.same (s5.trans s6), hP.same (s5.trans s6), hu, ⟨t2, rfl, zB⟩, hi, hSy.same (s5.trans s6), hSt o (List.mem_of_getElem? ho), fun h0 H' s7 => ⟨s4.trans (sT.trans (s6.trans s7)), nil_of hn (by rw [hmi, h0]), _, _, rfl⟩, fun f r hf => ?_⟩
 rw [hf] at hmi
 obtain ⟨r', hr'⟩ := hd_of hn hmi
 exact (q2 f r' hr').same (s5.trans s6)
def JRSh (T : Txt K mg A) : MethJ P w K mg base (CXW P w) 8 A.c_Reach "look_at_sheet" := ⟨_, _, _, _, [], [], T.cl_Reach, T.me_Reach_look_at_sheet, ok_rsh T, T.b_c_Reach_look_at_sheet, .nil⟩
theorem ok_look_for_reach (T : Txt K mg A) : FnOk P w K mg base (CXW P w) 9 A.f_look_for_reach A.d_look_for_reach ["paper"] (spLRe A) := by
 have G_c_Reach___init := ok_reach_init (P := P) (w := w) (base := base) T
 refine T.F_look_for_reach.okX sc_look_for_reach (fun vs H Q E h => ?_) (fun cdv A0 outer s H vs Q E hr h => ?_)
 · obtain ⟨a, sh, ts, rfl, _⟩ := h
   rfl
 obtain ⟨a, sh, ts, rfl, hP, hG, hu, hS, q1, q2⟩ := h
 refine ⟨_, (zF (zX (i := 1) sc_look_for_reach.nd rfl (by first | exact Or.inl rfl | exact Or.inr rfl) (yZ T.mk_Reach G_c_Reach___init (hr.mono (by first | decide | omega)) rfl T.m_Reach T.b_c_Reach___init .nil yB (zA (pv 0) zC)))
     (zH (PS.inL (ps_forL (pi_range1 rfl T.n_range (zA (yA yW (by rfl) T.n_len PySem.boot_len (zA (zO (pv 0) rfl) zC)) zC)) (zS (i := 2) sc_look_for_reach.nd rfl (by first | exact Or.inl rfl | exact Or.inr rfl)) (zH (yI (xH (CX := CXW P w) (k := 8) (hr.mono (by first | decide | omega)) passL (pv 1) (zA (pv 2) zC)))))))), ?_⟩
 refine ⟨_, rfl, fun p dx np nd ne => ?_⟩
 have sm := yL np nd (.ins A.c_Reach dx [])
 refine ⟨p, dx, a, sh, ts, rfl, zB, hP.same sm, hG, hu, fun H1 F hR => ⟨rfl, ?_⟩⟩
 have s1 : Same H H1 := fun b o hb => F _ _ (sm _ _ hb) (ni1 (zI hb np))
 have hP1 := hP.same s1
 obtain ⟨dp, u, qa, qb, xs, p1, p2, p3, _⟩ := id hP1
 have lxs := zL p3
 have h10 := hG.1
 dsimp only [gName, List.set_cons_succ, List.set_cons_zero]
 refine ⟨_, rfl, a, _, dp, _, _, rfl, p1, T.cl_Paper, T.no_Paper_sheets, (by rw [lk2 (by symm)]), qa, _, rfl, .inl (SqL.of p2), _, rfl, (by omega), (by omega), ?_⟩
 rw [show ((xs.length : Nat) : Int).toNat = xs.length from rfl]
 refine for_rangeR (fun i σ G => Same H1 G ∧ ((sh.mapIdx (shRc sh)).take i).flatten = [] ∧ ∃ u1, σ = [some (.ref a), some (.ref p), u1]) ⟨Same.refl _, rfl, _, rfl⟩ (fun i σ G hi hw => ?_) (fun σ G hw => q1 (by have := hw.2.1; rw [lxs, ← List.length_mapIdx (f := shRc sh)] at this; rw [List.take_length] at this; exact this) _ (s1.trans hw.1))
 obtain ⟨s2, hn, u1, rfl⟩ := hw
 have hR2 := hR.same s2
 obtain ⟨dx', d, kvs, hp, _⟩ := id hR2
 obtain ⟨t, ht⟩ : ∃ t, sh[i]? = some t := ⟨_, List.getElem?_eq_getElem (by omega)⟩
 have hmi : (sh.mapIdx (shRc sh))[i]? = some (shRc sh i t) := by rw [List.getElem?_mapIdx, ht]; rfl
 refine ⟨_, rfl, p, _, dx', _, JRSh T, rfl, hp, rfl, _, rfl, p, a, sh, ts, i, t, (by rw [Int.zero_add]; rfl), hR2, hP1.same s2, hG, hu, hS, ht, fun h0 H' s3 => ⟨s2.trans s3, nil_of hn (by rw [hmi, h0]), _, rfl⟩, fun f r hf => ?_⟩
 rw [hf] at hmi
 obtain ⟨r', hr'⟩ := hd_of hn hmi
 exact (q2 f r' hr').same (s1.trans s2)
end
end K40
set_option maxHeartbeats 4000000
namespace K40
open PySem L2
seal PE PT PW PA PS PSs PG PGs PI PO PSet OpR UnR CallR TruR IxR SlR PC PPs
local macro_rules | `(tactic| walk_at "rd1") => `(tactic| first
 | (refine And.intro rfl ?_)
 | (refine And.intro (by assumption) ?_)
 | (refine And.intro (fun _ e => e) ?_)
 | (refine And.intro (TyOf.str _) ?_) | (refine And.intro (TyOf.int _) ?_) | (refine And.intro (TyOf.bl _) ?_) | (refine And.intro TyOf.non ?_)
 | (refine iteT ?_) | (refine iteF ?_)
 | (apply Exists.intro))
local macro_rules | `(tactic| walk_at "rd") => `(tactic| repeat (walk_at "rd1"))
theorem dup_not {zs : List Str} {i : Nat} {z : Str} (h : Dup zs i z) : ¬ zs.Nodup := fun nd => by
 obtain ⟨h1, _, h3⟩ := h
 obtain ⟨k, lk, ek⟩ := List.getElem_of_mem h3
 rw [List.length_take] at lk
 rw [List.getElem_take] at ek
 have := (List.getElem?_inj (i := k) (j := i) (by omega) nd).mp (by rw [h1, List.getElem?_eq_getElem (by omega), ek])
 omega
theorem dup_uniq {zs : List Str} {i j : Nat} {y z : Str} (h : Dup zs i y) (k : Dup zs j z) : y = z := by
 have key : ∀ {i j : Nat} {y : Str}, Dup zs i y → (zs.take j).Nodup → ¬ i < j := fun {i j y} h nd hlt => by
   obtain ⟨h1, _, h3⟩ := h
   obtain ⟨n, ln, en⟩ := List.getElem_of_mem h3
   rw [List.length_take] at ln
   rw [List.getElem_take] at en
   have li := (List.getElem?_eq_some_iff.mp h1).1
   have := (List.getElem?_inj (l := zs.take j) (i := n) (j := i) (by rw [List.length_take]; omega) nd).mp (by rw [List.getElem?_take_of_lt (by omega), List.getElem?_take_of_lt hlt, h1, List.getElem?_eq_getElem (by omega), en])
   omega
 have e : i = j := by have := key h k.2.1; have := key k h.2.1; omega
 subst e
 have := h.1.symm.trans k.1
 exact Option.some.inj this
def nsOf (sh : List Sh) (ts : List Tot) : List Str := allN sh ++ ts.map (·.1)
def First (sh : List Sh) (ts : List Tot) (f : Option Flt) : Prop :=
 (∃ i z, Dup (nsOf sh ts) i z ∧ f = some (.tw, z)) ∨ ((nsOf sh ts).Nodup ∧ GA sh ts ∧ UQ sh ∧ ((∃ g r, nmFl sh ts = g :: r ∧ f = some g) ∨ (nmFl sh ts = [] ∧ GS sh ∧ ((itT ts.length ts ≠ [] ∧ f = some (.rg, Str.ofString "")) ∨ (itT ts.length ts = [] ∧ ((∃ g r, rcAll sh = g :: r ∧ f = some g) ∨ (rcAll sh = [] ∧ f = none)))))))
def spLA (A : Adr) : Sp := fun vs H Q E => ∃ a sh ts f, vs = [.ref a] ∧ PaR A H a sh ts ∧ GP sh ts ∧ (∀ z ∈ nsOf sh ts, z.length ≤ 100) ∧ First sh ts f ∧ (f = none → ∀ H', Same H H' → Q .non H') ∧ ∀ g, f = some g → XR A H E g
def spAlone (A : Adr) : Sp := fun vs H Q _ => ∃ e c dx, vs = [.ref e] ∧ H e = some (excD e (cls A c) dx) ∧ Q (.bl true) H
def noF : Flt := (.no, Str.ofString "None")
def spFault (A : Adr) : Sp := fun vs H Q _ => ∃ a sh ts f, vs = [.ref a] ∧ PaR A H a sh ts ∧ GP sh ts ∧ (∀ z ∈ nsOf sh ts, z.length ≤ 100) ∧ First sh ts f ∧ (∀ g, f = some g → g.1 ≠ .no ∧ (g.1 = .rg → g.2 = Str.ofString "")) ∧ ∀ x H', Same H H' → FlR H' x (f.getD noF) → Q x H'
section
variable {P : Program} {w : World} {K : W.Frag} {mg : Str → Option Value} {base : Heap} {A : Adr}
theorem ok_look_at (T : Txt K mg A) : FnOk P w K mg base (CXW P w) 10 A.f_look_at A.d_look_at ["paper"] (spLA A) := by
 have G_look_for_twice := ok_twice (P := P) (w := w) (base := base) T
 have G_look_at_names := ok_look_at_names (P := P) (w := w) (base := base) T
 have G_look_for_ring := ok_ring (P := P) (w := w) (base := base) T
 have G_look_for_reach := ok_look_for_reach (P := P) (w := w) (base := base) T
 refine T.F_look_at.okX sc_look_at (fun vs H Q E h => ?_) (fun cdv A0 outer s H vs Q E hr h => ?_)
 · obtain ⟨a, sh, ts, f, rfl, _⟩ := h
   rfl
 obtain ⟨a, sh, ts, f, rfl, hP, hG, hz, hF, q1, q2⟩ := h
 refine ⟨_, (zF (yI (zV G_look_for_twice (hr.mono (by first | decide | omega)) rfl T.m_look_for_twice T.k_look_for_twice T.b_look_for_twice .nil passX (zA (pv 0) zC)))
     (zF (yI (zV G_look_at_names (hr.mono (by first | decide | omega)) rfl T.m_look_at_names T.k_look_at_names T.b_look_at_names .nil passX (zA (pv 0) zC)))
     (zF (yI (zV G_look_for_ring (hr.mono (by first | decide | omega)) rfl T.m_look_for_ring T.k_look_for_ring T.b_look_for_ring .nil passX (zA (pv 0) zC)))
     (zH (yI (zV G_look_for_reach (hr.mono (by first | decide | omega)) rfl T.m_look_for_reach T.k_look_for_reach T.b_look_for_reach .nil passX (zA (pv 0) zC))))))), ?_⟩
 refine ⟨_, rfl, a, sh, ts, nsOf sh ts, rfl, hP, hG, rfl, hz, fun nd H1 s1 => ?_, fun i z hd dx H1 s1 h1 => ?_⟩
 rotate_left
 · rcases hF with ⟨i', z', hd', e⟩ | ⟨nd, _⟩
   · rw [dup_uniq hd hd'] at h1
     exact q2 _ e dx H1 s1 fun _ => h1
   · exact absurd nd (dup_not hd)
 rcases hF with ⟨i', z', hd', e⟩ | ⟨_, hA, hu, hF⟩
 · exact absurd nd (dup_not hd')
 refine ⟨_, rfl, a, sh, ts, rfl, hP.same s1, hG, hA, fun h0 H2 s2 => ?_, fun g r hg => ?_⟩
 rotate_left
 · rcases hF with ⟨g', r', hg', e⟩ | ⟨h0, _⟩
   · rw [hg] at hg'
     cases hg'
     exact (q2 g e).same s1
   · rw [h0] at hg; cases hg
 rcases hF with ⟨g', r', hg', e⟩ | ⟨_, hS, hF⟩
 · rw [h0] at hg'; cases hg'
 have hlen : ∀ t ∈ ts, t.1.length ≤ 100 := fun t ht => hz _ (List.mem_append.mpr (.inr (List.mem_map_of_mem ht)))
 have s12 := s1.trans s2
 refine ⟨_, rfl, a, sh, ts, rfl, hP.same s12, hG, hA.2.1, hlen, fun h1 H3 s3 => ?_, fun h1 => ?_⟩
 rotate_left
 · rcases hF with ⟨_, e⟩ | ⟨h1', _⟩
   · exact (q2 _ e).same s12
   · exact absurd h1' h1
 rcases hF with ⟨h1', e⟩ | ⟨_, hF⟩
 · exact absurd h1 h1'
 have s13 := s12.trans s3
 refine ⟨_, rfl, a, sh, ts, rfl, hP.same s13, hG, hu, hS, fun h2 H4 s4 => ?_, fun g r hg => ?_⟩
 · rcases hF with ⟨g', r', hg', e⟩ | ⟨_, e⟩
   · rw [h2] at hg'; cases hg'
   · exact q1 e H4 (s13.trans s4)
 · rcases hF with ⟨g', r', hg', e⟩ | ⟨h2, _⟩
   · rw [hg] at hg'
     cases hg'
     exact (q2 g e).same s13
   · rw [h2] at hg; cases hg
theorem ok_alone (T : Txt K mg A) : FnOk P w K mg base CX0 1 A.f_law_alone A.d_law_alone ["_law_e"] (spAlone A) := by
 refine T.F_law_alone.ok sc_law_alone (fun vs H Q E h => ?_) (fun cdv A0 outer s H vs Q E hr h => ?_)
 · obtain ⟨e, c, dx, rfl, _⟩ := h
   rfl
 obtain ⟨e, c, dx, rfl, he, q⟩ := h
 refine ⟨_, (zF (zX (i := 1) sc_law_alone.nd rfl (by first | exact Or.inl rfl | exact Or.inr rfl) (zU xR (zU xR (yH call_int1 (by rfl) T.n_int Bt.int (zA (yA yK (by rfl) T.n_isinstance Bt.isinstance (zA (pv 0) (zA (xL rfl T.v_Twice) zC))) zC)) (yH call_int1 (by rfl) T.n_int Bt.int (zA (yA yK (by rfl) T.n_isinstance Bt.isinstance (zA (pv 0) (zA (xL rfl T.v_Unknown) zC))) zC))) (yH call_int1 (by rfl) T.n_int Bt.int (zA (yA yK (by rfl) T.n_isinstance Bt.isinstance (zA (pv 0) (zA (xL rfl T.v_WrongKind) zC))) zC))))
     (zF (zX (i := 1) sc_law_alone.nd rfl (by first | exact Or.inl rfl | exact Or.inr rfl) (zU xR (zU xR (zU xR (pv 1) (yH call_int1 (by rfl) T.n_int Bt.int (zA (yA yK (by rfl) T.n_isinstance Bt.isinstance (zA (pv 0) (zA (xL rfl T.v_NoWay) zC))) zC))) (yH call_int1 (by rfl) T.n_int Bt.int (zA (yA yK (by rfl) T.n_isinstance Bt.isinstance (zA (pv 0) (zA (xL rfl T.v_Ring) zC))) zC))) (yH call_int1 (by rfl) T.n_int Bt.int (zA (yA yK (by rfl) T.n_isinstance Bt.isinstance (zA (pv 0) (zA (xL rfl T.v_OutOfReach) zC))) zC))))
     (zH (zY (pe_and (pe_cmpR op_eq (pv 1) zJ (yJ _)) (pe_and (yA yK (by rfl) T.n_isinstance Bt.isinstance (zA (pv 0) (zA (xL rfl T.v_AskError) zC))) (pe_one (yA yK (by rfl) T.n_isinstance Bt.isinstance (zA (pv 0) (zA (pe_bltn (v := .ty "ValueError") rfl T.n_ValueError Bt.ValueError rfl) zC)))))))))), ?_⟩
 cases c with
 | tw =>
   refine ⟨_, rfl, _, _, _, _, rfl, rfl, .excd he T.ec_Twice, T.kr_Twice_Twice, .inr ⟨_, rfl, ?_⟩⟩
   refine ⟨_, rfl, _, _, _, _, rfl, rfl, .excd he T.ec_Twice, T.kr_Twice_Unknown, .inr ⟨_, rfl, _, _, rfl, rfl, ?_⟩⟩
   refine ⟨_, rfl, _, _, _, _, rfl, rfl, .excd he T.ec_Twice, T.kr_Twice_WrongKind, .inr ⟨_, rfl, _, _, rfl, rfl, ?_⟩⟩
   refine ⟨_, rfl, _, rfl, _, _, _, _, rfl, rfl, .excd he T.ec_Twice, T.kr_Twice_NoWay, .inr ⟨_, rfl, _, _, rfl, rfl, ?_⟩⟩
   refine ⟨_, rfl, _, _, _, _, rfl, rfl, .excd he T.ec_Twice, T.kr_Twice_Ring, .inr ⟨_, rfl, _, _, rfl, rfl, ?_⟩⟩
   refine ⟨_, rfl, _, _, _, _, rfl, rfl, .excd he T.ec_Twice, T.kr_Twice_OutOfReach, .inr ⟨_, rfl, _, _, rfl, rfl, ?_⟩⟩
   refine ⟨_, rfl, rfl, _, rfl, iteT ?_⟩
   refine ⟨_, rfl, _, _, _, _, rfl, rfl, .excd he T.ec_Twice, T.kr_Twice_AskError, _, rfl, iteT ?_⟩
   exact ⟨_, rfl, _, _, _, _, rfl, rfl, .excd he T.ec_Twice, T.krt_Twice_ValueError, q⟩
 | un =>
   refine ⟨_, rfl, _, _, _, _, rfl, rfl, .excd he T.ec_Unknown, T.kr_Unknown_Twice, .inr ⟨_, rfl, ?_⟩⟩
   refine ⟨_, rfl, _, _, _, _, rfl, rfl, .excd he T.ec_Unknown, T.kr_Unknown_Unknown, .inr ⟨_, rfl, _, _, rfl, rfl, ?_⟩⟩
   refine ⟨_, rfl, _, _, _, _, rfl, rfl, .excd he T.ec_Unknown, T.kr_Unknown_WrongKind, .inr ⟨_, rfl, _, _, rfl, rfl, ?_⟩⟩
   refine ⟨_, rfl, _, rfl, _, _, _, _, rfl, rfl, .excd he T.ec_Unknown, T.kr_Unknown_NoWay, .inr ⟨_, rfl, _, _, rfl, rfl, ?_⟩⟩
   refine ⟨_, rfl, _, _, _, _, rfl, rfl, .excd he T.ec_Unknown, T.kr_Unknown_Ring, .inr ⟨_, rfl, _, _, rfl, rfl, ?_⟩⟩
   refine ⟨_, rfl, _, _, _, _, rfl, rfl, .excd he T.ec_Unknown, T.kr_Unknown_OutOfReach, .inr ⟨_, rfl, _, _, rfl, rfl, ?_⟩⟩
   refine ⟨_, rfl, rfl, _, rfl, iteT ?_⟩
   refine ⟨_, rfl, _, _, _, _, rfl, rfl, .excd he T.ec_Unknown, T.kr_Unknown_AskError, _, rfl, iteT ?_⟩
   exact ⟨_, rfl, _, _, _, _, rfl, rfl, .excd he T.ec_Unknown, T.krt_Unknown_ValueError, q⟩
 | wr =>
   refine ⟨_, rfl, _, _, _, _, rfl, rfl, .excd he T.ec_WrongKind, T.kr_WrongKind_Twice, .inr ⟨_, rfl, ?_⟩⟩
   refine ⟨_, rfl, _, _, _, _, rfl, rfl, .excd he T.ec_WrongKind, T.kr_WrongKind_Unknown, .inr ⟨_, rfl, _, _, rfl, rfl, ?_⟩⟩
   refine ⟨_, rfl, _, _, _, _, rfl, rfl, .excd he T.ec_WrongKind, T.kr_WrongKind_WrongKind, .inr ⟨_, rfl, _, _, rfl, rfl, ?_⟩⟩
   refine ⟨_, rfl, _, rfl, _, _, _, _, rfl, rfl, .excd he T.ec_WrongKind, T.kr_WrongKind_NoWay, .inr ⟨_, rfl, _, _, rfl, rfl, ?_⟩⟩
   refine ⟨_, rfl, _, _, _, _, rfl, rfl, .excd he T.ec_WrongKind, T.kr_WrongKind_Ring, .inr ⟨_, rfl, _, _, rfl, rfl, ?_⟩⟩
   refine ⟨_, rfl, _, _, _, _, rfl, rfl, .excd he T.ec_WrongKind, T.kr_WrongKind_OutOfReach, .inr ⟨_, rfl, _, _, rfl, rfl, ?_⟩⟩
   refine ⟨_, rfl, rfl, _, rfl, iteT ?_⟩
   refine ⟨_, rfl, _, _, _, _, rfl, rfl, .excd he T.ec_WrongKind, T.kr_WrongKind_AskError, _, rfl, iteT ?_⟩
   exact ⟨_, rfl, _, _, _, _, rfl, rfl, .excd he T.ec_WrongKind, T.krt_WrongKind_ValueError, q⟩
 | nw =>
   refine ⟨_, rfl, _, _, _, _, rfl, rfl, .excd he T.ec_NoWay, T.kr_NoWay_Twice, .inr ⟨_, rfl, ?_⟩⟩
   refine ⟨_, rfl, _, _, _, _, rfl, rfl, .excd he T.ec_NoWay, T.kr_NoWay_Unknown, .inr ⟨_, rfl, _, _, rfl, rfl, ?_⟩⟩
   refine ⟨_, rfl, _, _, _, _, rfl, rfl, .excd he T.ec_NoWay, T.kr_NoWay_WrongKind, .inr ⟨_, rfl, _, _, rfl, rfl, ?_⟩⟩
   refine ⟨_, rfl, _, rfl, _, _, _, _, rfl, rfl, .excd he T.ec_NoWay, T.kr_NoWay_NoWay, .inr ⟨_, rfl, _, _, rfl, rfl, ?_⟩⟩
   refine ⟨_, rfl, _, _, _, _, rfl, rfl, .excd he T.ec_NoWay, T.kr_NoWay_Ring, .inr ⟨_, rfl, _, _, rfl, rfl, ?_⟩⟩
   refine ⟨_, rfl, _, _, _, _, rfl, rfl, .excd he T.ec_NoWay, T.kr_NoWay_OutOfReach, .inr ⟨_, rfl, _, _, rfl, rfl, ?_⟩⟩
   refine ⟨_, rfl, rfl, _, rfl, iteT ?_⟩
   refine ⟨_, rfl, _, _, _, _, rfl, rfl, .excd he T.ec_NoWay, T.kr_NoWay_AskError, _, rfl, iteT ?_⟩
   exact ⟨_, rfl, _, _, _, _, rfl, rfl, .excd he T.ec_NoWay, T.krt_NoWay_ValueError, q⟩
 | rg =>
   refine ⟨_, rfl, _, _, _, _, rfl, rfl, .excd he T.ec_Ring, T.kr_Ring_Twice, .inr ⟨_, rfl, ?_⟩⟩
   refine ⟨_, rfl, _, _, _, _, rfl, rfl, .excd he T.ec_Ring, T.kr_Ring_Unknown, .inr ⟨_, rfl, _, _, rfl, rfl, ?_⟩⟩
   refine ⟨_, rfl, _, _, _, _, rfl, rfl, .excd he T.ec_Ring, T.kr_Ring_WrongKind, .inr ⟨_, rfl, _, _, rfl, rfl, ?_⟩⟩
   refine ⟨_, rfl, _, rfl, _, _, _, _, rfl, rfl, .excd he T.ec_Ring, T.kr_Ring_NoWay, .inr ⟨_, rfl, _, _, rfl, rfl, ?_⟩⟩
   refine ⟨_, rfl, _, _, _, _, rfl, rfl, .excd he T.ec_Ring, T.kr_Ring_Ring, .inr ⟨_, rfl, _, _, rfl, rfl, ?_⟩⟩
   refine ⟨_, rfl, _, _, _, _, rfl, rfl, .excd he T.ec_Ring, T.kr_Ring_OutOfReach, .inr ⟨_, rfl, _, _, rfl, rfl, ?_⟩⟩
   refine ⟨_, rfl, rfl, _, rfl, iteT ?_⟩
   refine ⟨_, rfl, _, _, _, _, rfl, rfl, .excd he T.ec_Ring, T.kr_Ring_AskError, _, rfl, iteT ?_⟩
   exact ⟨_, rfl, _, _, _, _, rfl, rfl, .excd he T.ec_Ring, T.krt_Ring_ValueError, q⟩
 | re =>
   refine ⟨_, rfl, _, _, _, _, rfl, rfl, .excd he T.ec_OutOfReach, T.kr_OutOfReach_Twice, .inr ⟨_, rfl, ?_⟩⟩
   refine ⟨_, rfl, _, _, _, _, rfl, rfl, .excd he T.ec_OutOfReach, T.kr_OutOfReach_Unknown, .inr ⟨_, rfl, _, _, rfl, rfl, ?_⟩⟩
   refine ⟨_, rfl, _, _, _, _, rfl, rfl, .excd he T.ec_OutOfReach, T.kr_OutOfReach_WrongKind, .inr ⟨_, rfl, _, _, rfl, rfl, ?_⟩⟩
   refine ⟨_, rfl, _, rfl, _, _, _, _, rfl, rfl, .excd he T.ec_OutOfReach, T.kr_OutOfReach_NoWay, .inr ⟨_, rfl, _, _, rfl, rfl, ?_⟩⟩
   refine ⟨_, rfl, _, _, _, _, rfl, rfl, .excd he T.ec_OutOfReach, T.kr_OutOfReach_Ring, .inr ⟨_, rfl, _, _, rfl, rfl, ?_⟩⟩
   refine ⟨_, rfl, _, _, _, _, rfl, rfl, .excd he T.ec_OutOfReach, T.kr_OutOfReach_OutOfReach, .inr ⟨_, rfl, _, _, rfl, rfl, ?_⟩⟩
   refine ⟨_, rfl, rfl, _, rfl, iteT ?_⟩
   refine ⟨_, rfl, _, _, _, _, rfl, rfl, .excd he T.ec_OutOfReach, T.kr_OutOfReach_AskError, _, rfl, iteT ?_⟩
   exact ⟨_, rfl, _, _, _, _, rfl, rfl, .excd he T.ec_OutOfReach, T.krt_OutOfReach_ValueError, q⟩
 | no =>
   refine ⟨_, rfl, _, _, _, _, rfl, rfl, .excd he T.ec_Twice, T.kr_Twice_Twice, .inr ⟨_, rfl, ?_⟩⟩
   refine ⟨_, rfl, _, _, _, _, rfl, rfl, .excd he T.ec_Twice, T.kr_Twice_Unknown, .inr ⟨_, rfl, _, _, rfl, rfl, ?_⟩⟩
   refine ⟨_, rfl, _, _, _, _, rfl, rfl, .excd he T.ec_Twice, T.kr_Twice_WrongKind, .inr ⟨_, rfl, _, _, rfl, rfl, ?_⟩⟩
   refine ⟨_, rfl, _, rfl, _, _, _, _, rfl, rfl, .excd he T.ec_Twice, T.kr_Twice_NoWay, .inr ⟨_, rfl, _, _, rfl, rfl, ?_⟩⟩
   refine ⟨_, rfl, _, _, _, _, rfl, rfl, .excd he T.ec_Twice, T.kr_Twice_Ring, .inr ⟨_, rfl, _, _, rfl, rfl, ?_⟩⟩
   refine ⟨_, rfl, _, _, _, _, rfl, rfl, .excd he T.ec_Twice, T.kr_Twice_OutOfReach, .inr ⟨_, rfl, _, _, rfl, rfl, ?_⟩⟩
   refine ⟨_, rfl, rfl, _, rfl, iteT ?_⟩
   refine ⟨_, rfl, _, _, _, _, rfl, rfl, .excd he T.ec_Twice, T.kr_Twice_AskError, _, rfl, iteT ?_⟩
   exact ⟨_, rfl, _, _, _, _, rfl, rfl, .excd he T.ec_Twice, T.krt_Twice_ValueError, q⟩
theorem ok_fault (T : Txt K mg A) : FnOk P w K mg base CX0 11 A.f_law_fault A.d_law_fault ["_law_paper_here"] (spFault A) := by
 have G_look_at := ok_look_at (P := P) (w := w) (base := base) T
 have G_law_alone := ok_alone (P := P) (w := w) (base := base) T
 refine T.F_law_fault.ok sc_law_fault (fun vs H Q E h => ?_) (fun cdv A0 outer s H vs Q E hr h => ?_)
 · obtain ⟨a, sh, ts, f, rfl, _⟩ := h
   rfl
 obtain ⟨a, sh, ts, f, rfl, hP, hG, hz, hF, hf, q⟩ := h
 refine ⟨_, (zF (zX (i := 1) sc_law_fault.nd rfl (by first | exact Or.inl rfl | exact Or.inr rfl) pe_non)
     (zF (zX (i := 2) sc_law_fault.nd rfl (by first | exact Or.inl rfl | exact Or.inr rfl) pe_non)
     (zF (ps_tryAs (j := 3) sc_law_fault.nd rfl rfl rfl rfl rfl (psx_one (psx_set (i := 2) sc_law_fault.nd rfl (by first | exact Or.inl rfl | exact Or.inr rfl) (pex_call G_look_at (hr.mono (by first | decide | omega)) rfl T.m_look_at T.k_look_at T.b_look_at .nil (zA (pv 0) zC)))) rfl T.m_AskError (fun _ => (zH (zX (i := 1) sc_law_fault.nd rfl (by first | exact Or.inl rfl | exact Or.inr rfl) (pv 3)))))
     (zF (yN (yC op_isN (pv 1) pe_non (yJ _)) (zH (zY (zM (zA zP (zA (yH call_str_none (by rfl) T.n_str Bt.str (zA (pv 2) zC)) zC))))) zW)
     (zF (yN (pt_not (yY (zV G_law_alone (hr.mono (by first | decide | omega)) rfl T.m_law_alone T.k_law_alone T.b_law_alone .nil yB (zA (pv 1) zC)))) (zH (zY (zM (zA zP (zA zP zC))))) zW)
     (zF (yN (yY (yA yK (by rfl) T.n_isinstance Bt.isinstance (zA (pv 1) (zA (xL rfl T.v_Twice) zC)))) (zH (zY (zM (zA zP (zA (pe_fldX (pv 1) rfl) zC))))) zW)
     (zF (yN (yY (yA yK (by rfl) T.n_isinstance Bt.isinstance (zA (pv 1) (zA (xL rfl T.v_Unknown) zC)))) (zH (zY (zM (zA zP (zA (pe_fldX (pv 1) rfl) zC))))) zW)
     (zF (yN (yY (yA yK (by rfl) T.n_isinstance Bt.isinstance (zA (pv 1) (zA (xL rfl T.v_WrongKind) zC)))) (zH (zY (zM (zA zP (zA (pe_fldX (pv 1) rfl) zC))))) zW)
     (zF (yN (yY (yA yK (by rfl) T.n_isinstance Bt.isinstance (zA (pv 1) (zA (xL rfl T.v_NoWay) zC)))) (zH (zY (zM (zA zP (zA (pe_fldX (pv 1) rfl) zC))))) zW)
     (zF (yN (yY (yA yK (by rfl) T.n_isinstance Bt.isinstance (zA (pv 1) (zA (xL rfl T.v_OutOfReach) zC)))) (zH (zY (zM (zA zP (zA (pe_fldX (pv 1) rfl) zC))))) zW)
     (zH (zY (zM (zA zP (zA zP zC))))))))))))))), ?_⟩
 refine ⟨_, rfl, a, sh, ts, f, rfl, hP, hG, hz, hF, fun e H1 s1 => ?_, fun g e dx H1 s1 h1 => ?_⟩
 · subst e
   refine ⟨_, rfl, rfl, _, rfl, iteT ?_⟩
   exact ⟨_, rfl, rfl, (by show 2 ≤ sizeLine; decide), fun t ht => q _ _ (s1.trans (zD ht _)) ⟨t, rfl, zB⟩⟩
 subst e
 obtain ⟨n1, n2⟩ := hf g rfl
 obtain ⟨gc, gz⟩ := g
 cases gc with
 | tw =>
   refine ⟨A.c_Twice, rfl, T.em_Twice_AskError, fun ea hea => ?_⟩
   have se := zD hea (excA ea A.c_Twice (some dx))
   have he : (upd H1 ea (excA ea A.c_Twice (some dx))) ea = some (excD ea A.c_Twice dx) := zB
   have hx := fun h => se _ _ (h1 h)
   generalize upd H1 ea (excA ea A.c_Twice (some dx)) = H2 at se he hx
   refine ⟨_, rfl, ?_⟩
   refine ⟨_, rfl, rfl, _, rfl, iteF ?_⟩
   refine ⟨_, rfl, ea, .tw, dx, rfl, he, _, rfl, iteF ?_⟩
   refine ⟨_, rfl, _, _, _, _, rfl, rfl, .excd he T.ec_Twice, T.kr_Twice_Twice, _, rfl, iteT ?_⟩
   exact ⟨_, rfl, ea, A.c_Twice, dx, _, _, rfl, he, hx (by intro h; cases h), T.eg_Twice_name, (by rw [List.lookup_cons, beq_self_eq_true]; rfl), (by show 2 ≤ sizeLine; decide), fun t ht => q _ _ (s1.trans (se.trans (zD ht _))) ⟨t, rfl, zB⟩⟩
 | un =>
   refine ⟨A.c_Unknown, rfl, T.em_Unknown_AskError, fun ea hea => ?_⟩
   have se := zD hea (excA ea A.c_Unknown (some dx))
   have he : (upd H1 ea (excA ea A.c_Unknown (some dx))) ea = some (excD ea A.c_Unknown dx) := zB
   have hx := fun h => se _ _ (h1 h)
   generalize upd H1 ea (excA ea A.c_Unknown (some dx)) = H2 at se he hx
   refine ⟨_, rfl, ?_⟩
   refine ⟨_, rfl, rfl, _, rfl, iteF ?_⟩
   refine ⟨_, rfl, ea, .un, dx, rfl, he, _, rfl, iteF ?_⟩
   refine ⟨_, rfl, _, _, _, _, rfl, rfl, .excd he T.ec_Unknown, T.kr_Unknown_Twice, _, rfl, iteF ?_⟩
   refine ⟨_, rfl, _, _, _, _, rfl, rfl, .excd he T.ec_Unknown, T.kr_Unknown_Unknown, _, rfl, iteT ?_⟩
   exact ⟨_, rfl, ea, A.c_Unknown, dx, _, _, rfl, he, hx (by intro h; cases h), T.eg_Unknown_name, (by rw [List.lookup_cons, beq_self_eq_true]; rfl), (by show 2 ≤ sizeLine; decide), fun t ht => q _ _ (s1.trans (se.trans (zD ht _))) ⟨t, rfl, zB⟩⟩
 | wr =>
   refine ⟨A.c_WrongKind, rfl, T.em_WrongKind_AskError, fun ea hea => ?_⟩
   have se := zD hea (excA ea A.c_WrongKind (some dx))
   have he : (upd H1 ea (excA ea A.c_WrongKind (some dx))) ea = some (excD ea A.c_WrongKind dx) := zB
   have hx := fun h => se _ _ (h1 h)
   generalize upd H1 ea (excA ea A.c_WrongKind (some dx)) = H2 at se he hx
   refine ⟨_, rfl, ?_⟩
   refine ⟨_, rfl, rfl, _, rfl, iteF ?_⟩
   refine ⟨_, rfl, ea, .wr, dx, rfl, he, _, rfl, iteF ?_⟩
   refine ⟨_, rfl, _, _, _, _, rfl, rfl, .excd he T.ec_WrongKind, T.kr_WrongKind_Twice, _, rfl, iteF ?_⟩
   refine ⟨_, rfl, _, _, _, _, rfl, rfl, .excd he T.ec_WrongKind, T.kr_WrongKind_Unknown, _, rfl, iteF ?_⟩
   refine ⟨_, rfl, _, _, _, _, rfl, rfl, .excd he T.ec_WrongKind, T.kr_WrongKind_WrongKind, _, rfl, iteT ?_⟩
   exact ⟨_, rfl, ea, A.c_WrongKind, dx, _, _, rfl, he, hx (by intro h; cases h), T.eg_WrongKind_name, (by rw [List.lookup_cons, beq_self_eq_true]; rfl), (by show 2 ≤ sizeLine; decide), fun t ht => q _ _ (s1.trans (se.trans (zD ht _))) ⟨t, rfl, zB⟩⟩
 | nw =>
   refine ⟨A.c_NoWay, rfl, T.em_NoWay_AskError, fun ea hea => ?_⟩
   have se := zD hea (excA ea A.c_NoWay (some dx))
   have he : (upd H1 ea (excA ea A.c_NoWay (some dx))) ea = some (excD ea A.c_NoWay dx) := zB
   have hx := fun h => se _ _ (h1 h)
   generalize upd H1 ea (excA ea A.c_NoWay (some dx)) = H2 at se he hx
   refine ⟨_, rfl, ?_⟩
   refine ⟨_, rfl, rfl, _, rfl, iteF ?_⟩
   refine ⟨_, rfl, ea, .nw, dx, rfl, he, _, rfl, iteF ?_⟩
   refine ⟨_, rfl, _, _, _, _, rfl, rfl, .excd he T.ec_NoWay, T.kr_NoWay_Twice, _, rfl, iteF ?_⟩
   refine ⟨_, rfl, _, _, _, _, rfl, rfl, .excd he T.ec_NoWay, T.kr_NoWay_Unknown, _, rfl, iteF ?_⟩
   refine ⟨_, rfl, _, _, _, _, rfl, rfl, .excd he T.ec_NoWay, T.kr_NoWay_WrongKind, _, rfl, iteF ?_⟩
   refine ⟨_, rfl, _, _, _, _, rfl, rfl, .excd he T.ec_NoWay, T.kr_NoWay_NoWay, _, rfl, iteT ?_⟩
   exact ⟨_, rfl, ea, A.c_NoWay, dx, _, _, rfl, he, hx (by intro h; cases h), T.eg_NoWay_name, (by rw [List.lookup_cons, beq_self_eq_true]; rfl), (by show 2 ≤ sizeLine; decide), fun t ht => q _ _ (s1.trans (se.trans (zD ht _))) ⟨t, rfl, zB⟩⟩
 | rg =>
   refine ⟨A.c_Ring, rfl, T.em_Ring_AskError, fun ea hea => ?_⟩
   have se := zD hea (excA ea A.c_Ring (some dx))
   have he : (upd H1 ea (excA ea A.c_Ring (some dx))) ea = some (excD ea A.c_Ring dx) := zB
   have hx := fun h => se _ _ (h1 h)
   generalize upd H1 ea (excA ea A.c_Ring (some dx)) = H2 at se he hx
   refine ⟨_, rfl, ?_⟩
   refine ⟨_, rfl, rfl, _, rfl, iteF ?_⟩
   refine ⟨_, rfl, ea, .rg, dx, rfl, he, _, rfl, iteF ?_⟩
   refine ⟨_, rfl, _, _, _, _, rfl, rfl, .excd he T.ec_Ring, T.kr_Ring_Twice, _, rfl, iteF ?_⟩
   refine ⟨_, rfl, _, _, _, _, rfl, rfl, .excd he T.ec_Ring, T.kr_Ring_Unknown, _, rfl, iteF ?_⟩
   refine ⟨_, rfl, _, _, _, _, rfl, rfl, .excd he T.ec_Ring, T.kr_Ring_WrongKind, _, rfl, iteF ?_⟩
   refine ⟨_, rfl, _, _, _, _, rfl, rfl, .excd he T.ec_Ring, T.kr_Ring_NoWay, _, rfl, iteF ?_⟩
   refine ⟨_, rfl, _, _, _, _, rfl, rfl, .excd he T.ec_Ring, T.kr_Ring_OutOfReach, _, rfl, iteF ?_⟩
   have n3 : gz = Str.ofString "" := n2 rfl
   subst n3
   exact ⟨(by show 2 ≤ sizeLine; decide), fun t ht => q _ _ (s1.trans (se.trans (zD ht _))) ⟨t, rfl, zB⟩⟩
 | re =>
   refine ⟨A.c_OutOfReach, rfl, T.em_OutOfReach_AskError, fun ea hea => ?_⟩
   have se := zD hea (excA ea A.c_OutOfReach (some dx))
   have he : (upd H1 ea (excA ea A.c_OutOfReach (some dx))) ea = some (excD ea A.c_OutOfReach dx) := zB
   have hx := fun h => se _ _ (h1 h)
   generalize upd H1 ea (excA ea A.c_OutOfReach (some dx)) = H2 at se he hx
   refine ⟨_, rfl, ?_⟩
   refine ⟨_, rfl, rfl, _, rfl, iteF ?_⟩
   refine ⟨_, rfl, ea, .re, dx, rfl, he, _, rfl, iteF ?_⟩
   refine ⟨_, rfl, _, _, _, _, rfl, rfl, .excd he T.ec_OutOfReach, T.kr_OutOfReach_Twice, _, rfl, iteF ?_⟩
   refine ⟨_, rfl, _, _, _, _, rfl, rfl, .excd he T.ec_OutOfReach, T.kr_OutOfReach_Unknown, _, rfl, iteF ?_⟩
   refine ⟨_, rfl, _, _, _, _, rfl, rfl, .excd he T.ec_OutOfReach, T.kr_OutOfReach_WrongKind, _, rfl, iteF ?_⟩
   refine ⟨_, rfl, _, _, _, _, rfl, rfl, .excd he T.ec_OutOfReach, T.kr_OutOfReach_NoWay, _, rfl, iteF ?_⟩
   refine ⟨_, rfl, _, _, _, _, rfl, rfl, .excd he T.ec_OutOfReach, T.kr_OutOfReach_OutOfReach, _, rfl, iteT ?_⟩
   exact ⟨_, rfl, ea, A.c_OutOfReach, dx, _, _, rfl, he, hx (by intro h; cases h), T.eg_OutOfReach_name, (by rw [List.lookup_cons, beq_self_eq_true]; rfl), (by show 2 ≤ sizeLine; decide), fun t ht => q _ _ (s1.trans (se.trans (zD ht _))) ⟨t, rfl, zB⟩⟩
 | no => exact absurd rfl n1
end
end K40
set_option maxHeartbeats 4000000
namespace K40
open PySem L2
seal PE PT PW PA PS PSs PG PGs PI PO PSet OpR UnR CallR TruR IxR SlR PC PPs
local macro_rules | `(tactic| walk_at "rd1") => `(tactic| first
 | (refine And.intro rfl ?_)
 | (refine And.intro (by assumption) ?_)
 | (refine And.intro (fun _ e => e) ?_)
 | (refine And.intro (TyOf.str _) ?_) | (refine And.intro (TyOf.int _) ?_) | (refine And.intro (TyOf.bl _) ?_) | (refine And.intro TyOf.non ?_)
 | (refine iteT ?_) | (refine iteF ?_)
 | (apply Exists.intro))
local macro_rules | `(tactic| walk_at "rd") => `(tactic| repeat (walk_at "rd1"))
theorem nm_a {p : Int} {k : Nat} (h : k < 26) : 97 ∈ cd (nmF p k) := by
 rw [nm_cd, show k / 26 % 26 = 0 by omega]
 simp
theorem nm_zz {p : Int} {k : Nat} (h : k < 26) : nmF p k ≠ zZ := fun e => by
 have := nm_a (p := p) h
 rw [e] at this
 exact absurd this (by symm)
theorem nm_zE {p : Int} {k : Nat} (h : k < 26) : nmF p k ≠ zE := fun e => by
 have := nm_a (p := p) h
 rw [e] at this
 exact absurd this (by symm)
theorem nm_ne {p : Int} {i j : Nat} (hi : i < 26) (hj : j < 26) (n : i ≠ j) : nmF p i ≠ nmF p j := fun e => n (nm_inj hi hj e)
theorem nd_nm {p : Int} {L : List Nat} (h : ∀ k ∈ L, k < 26) (nd : L.Nodup) : (L.map (nmF p)).Nodup :=
 List.pairwise_map.mpr (List.Pairwise.imp_of_mem (fun {a b} ha hb ne e => ne (nm_inj (h a ha) (h b hb) e)) nd)
theorem nm_mem {p : Int} {L : List Nat} (h : ∀ k ∈ L, k < 26) {k : Nat} (hk : k < 26) : nmF p k ∈ L.map (nmF p) ↔ k ∈ L := by
 rw [List.mem_map]
 exact ⟨fun ⟨j, hj, e⟩ => nm_inj (h j hj) hk e ▸ hj, fun h => ⟨k, h, rfl⟩⟩
theorem nm_le (p : Int) (k : Nat) : (nmF p k).length ≤ 100 := by have := nm_len p k; omega
theorem zz_le : zZ.length ≤ 100 := by symm
theorem zE_le : zE.length ≤ 100 := by symm
theorem sum_nm (p : Int) (x : Int) : (sumF p x).1.map (·.1) = [10, 11].map (nmF p) := by
 unfold sumF
 repeat' split
 all_goals rfl
theorem qs_is (p : Int) (c : Nat → Int) : qsOf (shL p c) = [0, 3, 1, 4, 2, 5].map (nmF p) := rfl
theorem zz_no {p : Int} {L : List Nat} (h : ∀ k ∈ L, k < 26) : zZ ∉ L.map (nmF p) := fun hm => by
 obtain ⟨k, hk, e⟩ := List.mem_map.mp hm
 exact nm_zz (h k hk) e
theorem row_at {p : Int} {c : Nat → Int} {i j : Nat} {t : Sh} {r : Rw} (ht : (shL p c)[i]? = some t) (hr : t.rows[j]? = some r) : i < 3 ∧ j < 2 ∧ r.1 = nmF p (i + 3 * j) := by
 have hi : i < 3 := (List.getElem?_eq_some_iff.mp ht).1
 rw [shL_at hi] at ht
 cases ht
 refine ⟨hi, (List.getElem?_eq_some_iff.mp hr).1, ?_⟩
 match j, hr with
 | 0, hr => cases hr; rfl
 | 1, hr => cases hr; show nmF p (3 + i) = _; rw [Nat.add_comm]
theorem pl_of {p : Int} {c : Nat → Int} {i j : Nat} (hi : i < 3) (hj : j < 2) : Pl (shL p c) (nmF p (i + 3 * j)) i j := by
 match j, hj with
 | 0, _ => exact ⟨_, _, shL_at hi, rfl, rfl⟩
 | 1, _ => exact ⟨_, _, shL_at hi, rfl, by show nmF p (3 + i) = _; rw [Nat.add_comm]⟩
theorem uq_sh (p : Int) (c : Nat → Int) : UQ (shL p c) := fun i j t r i' j' t' r' h1 h2 h3 h4 e => by
 obtain ⟨a1, a2, a3⟩ := row_at h1 h2
 obtain ⟨b1, b2, b3⟩ := row_at h3 h4
 rw [a3, b3] at e
 have := nm_inj (by omega) (by omega) e
 omega
theorem pl_is {p : Int} {c : Nat → Int} {k i j : Nat} (hk : k < 26) (h : Pl (shL p c) (nmF p k) i j) : k = i + 3 * j ∧ i < 3 ∧ j < 2 := by
 obtain ⟨t, r, h1, h2, h3⟩ := h
 obtain ⟨a1, a2, a3⟩ := row_at h1 h2
 rw [a3] at h3
 exact ⟨(nm_inj (by omega) hk h3).symm, a1, a2⟩
theorem gp_sh (p : Int) (c : Nat → Int) (x : Int) : GP (shL p c) (sumF p x).1 := by
 refine ⟨by show 3 ≤ 10; decide, fun t ht => ?_, by have := (sum_le p x).2.2; omega, fun t ht => ?_⟩
 · obtain ⟨i, _, rfl⟩ := List.mem_map.mp ht
   exact ⟨by show 2 ≤ 3; decide, by show 1 ≤ 10; decide⟩
 · have : t.2.length ≤ 3 := by
     unfold sumF at ht
     repeat' split at ht
     all_goals
       rcases List.mem_cons.mp ht with rfl | ht
       · show 1 ≤ 3; decide
       · rw [List.mem_singleton.mp ht]
         first | exact (by show 1 ≤ 3; decide) | exact (by show 3 ≤ 3; decide)
   omega
theorem row_a (p : Int) (s : Nat) (x : Int) (a : At) (h : (rowF p s x).1 = some a) (hs : s < 3) : a.nm ∉ [10, 11].map (nmF p) ∧ a.nm.length ≤ 100 := by
 unfold rowF at h
 repeat' split at h
 · cases h; exact ⟨zz_no (by decide), zz_le⟩
 · cases h; exact ⟨fun m => absurd ((nm_mem (by decide) (by decide)).mp m) (by decide), nm_le _ _⟩
 · cases h
   refine ⟨fun m => ?_, nm_le _ _⟩
   have := (nm_mem (L := [10, 11]) (by decide) (by omega : 3 + s < 26)).mp m
   simp at this
   omega
 · cases h
theorem way_a (p : Int) (s : Nat) (x : Int) : (wayF p s x).1.1.length ≤ 100 ∧ ∀ a, (wayF p s x).1.2 = some a → a.nm ∉ [10, 11].map (nmF p) ∧ a.nm.length ≤ 100 := by
 unfold wayF
 repeat' split
 · exact ⟨nm_le _ _, fun a h => by cases h⟩
 · exact ⟨zE_le, fun a h => by cases h; exact ⟨zz_no (by decide), zz_le⟩⟩
 · exact ⟨nm_le _ _, fun a h => by cases h; exact ⟨zz_no (by decide), zz_le⟩⟩
 · exact ⟨zE_le, fun a h => by cases h; exact ⟨fun m => absurd ((nm_mem (by decide) (by decide)).mp m) (by decide), nm_le _ _⟩⟩
 · exact ⟨zE_le, fun a h => by cases h; exact ⟨fun m => absurd ((nm_mem (by decide) (by decide)).mp m) (by decide), nm_le _ _⟩⟩
theorem ga_sh (p : Int) (c : Nat → Int) (x : Int) : GA (shL p c) (sumF p x).1 := by
 refine ⟨fun t ht => ?_, by rw [sum_nm]; exact nd_nm (by decide) (by decide), fun t ht q hq z hz => ?_⟩
 · rw [sum_nm]
   obtain ⟨i, hi, rfl⟩ := List.mem_map.mp ht
   have hi := List.mem_range.mp hi
   refine ⟨fun r hr a ha => ?_, fun y hy => ?_⟩
   · rcases List.mem_cons.mp hr with rfl | hr
     · cases ha
     · rw [List.mem_singleton.mp hr] at ha
       exact row_a p i _ a ha hi
   · rw [List.mem_singleton.mp hy]
     exact way_a p i _
 · unfold sumF at ht
   repeat' split at ht
   all_goals
     rcases List.mem_cons.mp ht with rfl | ht
     · rw [List.mem_singleton.mp hq] at hz
       cases hz; exact nm_le _ _
     · rw [List.mem_singleton.mp ht] at hq
       simp only [List.mem_cons, List.not_mem_nil, or_false] at hq
       first
         | (subst hq; cases hz; first | exact nm_le _ _ | exact zz_le)
         | (rcases hq with rfl | rfl | rfl <;> cases hz <;> first | exact nm_le _ _ | exact zz_le)
end K40
set_option maxHeartbeats 4000000
namespace K40
open PySem L2
seal PE PT PW PA PS PSs PG PGs PI PO PSet OpR UnR CallR TruR IxR SlR PC PPs
local macro_rules | `(tactic| walk_at "rd1") => `(tactic| first
 | (refine And.intro rfl ?_)
 | (refine And.intro (by assumption) ?_)
 | (refine And.intro (fun _ e => e) ?_)
 | (refine And.intro (TyOf.str _) ?_) | (refine And.intro (TyOf.int _) ?_) | (refine And.intro (TyOf.bl _) ?_) | (refine And.intro TyOf.non ?_)
 | (refine iteT ?_) | (refine iteF ?_)
 | (apply Exists.intro))
local macro_rules | `(tactic| walk_at "rd") => `(tactic| repeat (walk_at "rd1"))
theorem at_zz {p : Int} {c : Nat → Int} {b : Bool} : atFl (qsOf (shL p c)) (some (.is zZ b)) = [(.un, zZ)] := by
 rw [qs_is]; exact if_neg (zz_no (by decide))
theorem at_nm {p : Int} {c : Nat → Int} {b : Bool} {k : Nat} (h : k < 6) : atFl (qsOf (shL p c)) (some (.is (nmF p k) b)) = [] := by
 rw [qs_is]
 refine if_pos ((nm_mem (by decide) (by omega)).mpr ?_)
 simp only [List.mem_cons, List.not_mem_nil, or_false]
 omega
theorem row_fl {p : Int} {c : Nat → Int} {s : Nat} (hs : s < 3) : rwFl (qsOf (shL p c)) (shK p c s) = (rowF p s (c s)).2.1 := by
 show atFl (qsOf (shL p c)) none ++ (atFl (qsOf (shL p c)) (rowF p s (c s)).1 ++ []) = _
 rw [List.append_nil]
 show atFl (qsOf (shL p c)) (rowF p s (c s)).1 = _
 generalize c s = x
 unfold rowF
 repeat' split
 · exact at_zz
 · show (if nmF p 0 ∈ qsOf (shL p c) then [(Fc.wr, nmF p 0)] else [(Fc.un, nmF p 0)]) = _
   rw [qs_is]; exact if_pos ((nm_mem (by decide) (by decide)).mpr (by decide))
 · exact at_nm (by omega)
 · rfl
theorem shK_nm {p : Int} {c : Nat → Int} {s : Nat} (n : ¬ c 4 % 5 = 0) : (shK p c s).nm = nmF p (20 + s) := if_neg fun h => n h.2
theorem tgt_no {p : Int} {c : Nat → Int} {s : Nat} (hs : s < 3) (n : ¬ c 4 % 5 = 0) : nmF p (20 + s) ∉ tgt (shL p c) s := by
 unfold tgt
 rw [List.mem_cons, List.mem_map]
 rintro (e | ⟨t, ht, e⟩)
 · exact nm_zE (by omega) e
 · obtain ⟨k, hk⟩ := List.getElem?_of_mem ht
   rw [List.getElem?_drop] at hk
   have hk3 : s + 1 + k < 3 := (List.getElem?_eq_some_iff.mp hk).1
   rw [shL_at hk3] at hk
   cases hk
   rw [shK_nm n] at e
   have := nm_inj (by omega) (by omega) e
   omega
theorem tgt_E {sh : List Sh} {s : Nat} : zE ∈ tgt sh s := List.mem_cons_self ..
theorem way_fl {p : Int} {c : Nat → Int} {s : Nat} {x : Int} (hs : s < 3) (n : ¬ c 4 % 5 = 0) : wyFl (qsOf (shL p c)) (tgt (shL p c) s) (wayF p s x).1 = (wayF p s x).2.1 := by
 unfold wayF
 repeat' split
 · exact if_neg (tgt_no hs n)
 · exact (if_pos tgt_E).trans at_zz
 · exact if_neg (tgt_no hs n)
 · exact (if_pos tgt_E).trans (at_nm (by decide))
 · exact (if_pos tgt_E).trans (at_nm (by decide))
theorem sh_fl {p : Int} {c : Nat → Int} {s : Nat} (hs : s < 3) (n : ¬ c 4 % 5 = 0) : shFl (qsOf (shL p c)) (shL p c) s (shK p c s) = (rowF p s (c s)).2.1 ++ (wayF p s (c s / 5)).2.1 := by
 unfold shFl
 rw [row_fl hs]
 congr 1
 show wyFl _ _ (wayF p s (c s / 5)).1 ++ [] = _
 rw [List.append_nil, way_fl hs n]
theorem shs_fl {p : Int} {c : Nat → Int} (n : ¬ c 4 % 5 = 0) : shsFl (shL p c) = nmd p c 3 := by
 show ([shFl (qsOf (shL p c)) (shL p c) 0 (shK p c 0), shFl (qsOf (shL p c)) (shL p c) 1 (shK p c 1), shFl (qsOf (shL p c)) (shL p c) 2 (shK p c 2)]).flatten = _
 rw [sh_fl (by decide) n, sh_fl (by decide) n, sh_fl (by decide) n]
 rfl
theorem pt_nm {p : Int} {c : Nat → Int} {m : Int} {k : Nat} (h : k ∈ [0, 10, 11]) : ptF (qsOf (shL p c)) ([10, 11].map (nmF p)) (m, some (nmF p k)) = [] := by
 refine if_pos ?_
 simp only [List.mem_cons, List.not_mem_nil, or_false] at h
 rcases h with rfl | rfl | rfl
 · exact .inl (by rw [qs_is]; exact (nm_mem (by decide) (by decide)).mpr (by decide))
 · exact .inr ((nm_mem (by decide) (by decide)).mpr (by decide))
 · exact .inr ((nm_mem (by decide) (by decide)).mpr (by decide))
theorem pt_zz {p : Int} {c : Nat → Int} {m : Int} : ptF (qsOf (shL p c)) ([10, 11].map (nmF p)) (m, some zZ) = [(.un, zZ)] := by
 refine if_neg (fun h => ?_)
 rcases h with h | h
 · rw [qs_is] at h; exact zz_no (by decide) h
 · exact zz_no (by decide) h
theorem ts_fl {p : Int} {c : Nat → Int} {x : Int} : tsFl (shL p c) (sumF p x).1 = (sumF p x).2.1 := by
 unfold tsFl
 rw [sum_nm]
 unfold sumF
 repeat' split
 · show (ptFl _ _ [(2, some (nmF p 11))] ++ (ptFl _ _ [(3, some (nmF p 10))] ++ [])) = []
   show ((ptF _ _ (2, some (nmF p 11)) ++ []) ++ ((ptF _ _ (3, some (nmF p 10)) ++ []) ++ [])) = []
   rw [pt_nm (by decide), pt_nm (by decide)]; rfl
 · show ((ptF _ _ (2, some (nmF p 11)) ++ []) ++ ((ptF _ _ (3, some zZ) ++ []) ++ [])) = _
   rw [pt_nm (by decide), pt_zz]; rfl
 · show ((ptF _ _ (2, some (nmF p 11)) ++ []) ++ ((ptF _ _ (1, some (nmF p 0)) ++ (ptF _ _ (3, some (nmF p 10)) ++ (ptF _ _ (2, some zZ) ++ []))) ++ [])) = _
   rw [pt_nm (by decide), pt_nm (by decide), pt_nm (by decide), pt_zz]; rfl
 · show ((ptF _ _ (2, some (nmF p 11)) ++ []) ++ ((ptF _ _ (3, some (nmF p 0)) ++ []) ++ [])) = []
   rw [pt_nm (by decide), pt_nm (by decide)]; rfl
theorem nm_fl {p : Int} {c : Nat → Int} {x : Int} (n : ¬ c 4 % 5 = 0) : nmFl (shL p c) (sumF p x).1 = nmd p c 3 ++ (sumF p x).2.1 := by
 unfold nmFl; rw [shs_fl n, ts_fl]
theorem sIn_one {tn : List Str} {m : Int} {z : Str} : sIn tn [(m, some z)] = if z ∈ tn then [z] else [] := by
 unfold sIn sF
 rw [List.filterMap_cons]
 dsimp only
 by_cases c : z ∈ tn
 · rw [if_pos c, if_pos c]; rfl
 · rw [if_neg c, if_neg c]; rfl
theorem ring_yes {a b : Str} {m n : Int} : itT 2 [(a, [(m, some b)]), (b, [(n, some a)])] ≠ [] := by
 have e : nxT [(a, [(m, some b)]), (b, [(n, some a)])] = [(a, [(m, some b)]), (b, [(n, some a)])] := by
   refine List.filter_eq_self.mpr fun t ht => ?_
   unfold hasT
   rcases List.mem_cons.mp ht with rfl | ht
   · rw [show ((a, [(m, some b)]) : Tot).2 = [(m, some b)] from rfl, sIn_one, if_pos (by simp)]; rfl
   · rw [List.mem_singleton.mp ht]
     rw [show ((b, [(n, some a)]) : Tot).2 = [(n, some a)] from rfl, sIn_one, if_pos (by simp)]; rfl
 show nxT (nxT [(a, [(m, some b)]), (b, [(n, some a)])]) ≠ []
 rw [e, e]
 exact List.cons_ne_nil _ _
theorem ring_no {a b z : Str} {m n : Int} (h1 : z ≠ a) (h2 : z ≠ b) (h3 : b ≠ a) : itT 2 [(a, [(m, some b)]), (b, [(n, some z)])] = [] := by
 have e1 : nxT [(a, [(m, some b)]), (b, [(n, some z)])] = [(a, [(m, some b)])] := by
   unfold nxT hasT
   rw [List.filter_cons, if_pos (by rw [show ((a, [(m, some b)]) : Tot).2 = [(m, some b)] from rfl, sIn_one, if_pos (by simp)]; rfl), List.filter_cons, if_neg (by rw [show ((b, [(n, some z)]) : Tot).2 = [(n, some z)] from rfl, sIn_one, if_neg (by simp [h1, h2])]; decide), List.filter_nil]
 have e2 : nxT [(a, [(m, some b)])] = [] := by
   unfold nxT hasT
   rw [List.filter_cons, if_neg (by rw [show ((a, [(m, some b)]) : Tot).2 = [(m, some b)] from rfl, sIn_one, if_neg (by simp [h3])]; decide), List.filter_nil]
 show nxT (nxT [(a, [(m, some b)]), (b, [(n, some z)])]) = []
 rw [e1, e2]
end K40
set_option maxHeartbeats 4000000
namespace K40
open PySem L2
seal PE PT PW PA PS PSs PG PGs PI PO PSet OpR UnR CallR TruR IxR SlR PC PPs
local macro_rules | `(tactic| walk_at "rd1") => `(tactic| first
 | (refine And.intro rfl ?_)
 | (refine And.intro (by assumption) ?_)
 | (refine And.intro (fun _ e => e) ?_)
 | (refine And.intro (TyOf.str _) ?_) | (refine And.intro (TyOf.int _) ?_) | (refine And.intro (TyOf.bl _) ?_) | (refine And.intro TyOf.non ?_)
 | (refine iteT ?_) | (refine iteF ?_)
 | (apply Exists.intro))
local macro_rules | `(tactic| walk_at "rd") => `(tactic| repeat (walk_at "rd1"))
theorem rc_nm {p : Int} {c : Nat → Int} {b : Bool} {s k i j : Nat} (hi : i < 3) (hj : j < 2) : rcFl (shL p c) s k (some (.is (nmF p (i + 3 * j)) b)) = if i < s ∨ i = s ∧ j < k then [] else [(.re, nmF p (i + 3 * j))] := by
 show (@ite _ (∃ i' j', Pl (shL p c) (nmF p (i + 3 * j)) i' j' ∧ bef s k i' j') (Classical.propDecidable _) [] [(Fc.re, nmF p (i + 3 * j))]) = _
 by_cases h : i < s ∨ i = s ∧ j < k
 · rw [if_pos ⟨i, j, pl_of hi hj, h⟩, if_pos h]
 · have hn : ¬ ∃ i' j', Pl (shL p c) (nmF p (i + 3 * j)) i' j' ∧ bef s k i' j' := by
     rintro ⟨i', j', h1, h2⟩
     have := pl_is (by omega) h1
     unfold bef at h2
     exact h (by omega)
   rw [if_neg hn, if_neg h]
theorem row_rc {p : Int} {c : Nat → Int} {s : Nat} {x : Int} (hs : s < 3) (h : (rowF p s x).2.1 = []) : rcFl (shL p c) s 1 (rowF p s x).1 = (rowF p s x).2.2 := by
 unfold rowF at h ⊢
 repeat' split
 · rename_i e; rw [if_pos e] at h; cases h
 · rename_i e e2; rw [if_neg e, if_pos e2] at h; cases h
 · have := rc_nm (p := p) (c := c) (b := false) (s := s) (k := 1) (i := s) (j := 1) hs (by decide)
   rw [if_neg (by omega), Nat.mul_one, Nat.add_comm s 3] at this
   exact this
 · rfl
theorem way_rc {p : Int} {c : Nat → Int} {s : Nat} {x : Int} (hs : s < 3) (h : (wayF p s x).2.1 = []) : rcFl (shL p c) s 2 (wayF p s x).1.2 = (wayF p s x).2.2 := by
 unfold wayF at h ⊢
 repeat' split
 · rename_i e; rw [if_pos e] at h; cases h
 · rename_i e e2; rw [if_neg e, if_pos e2] at h; cases h
 · rename_i e e2 e3; rw [if_neg e, if_neg e2, if_pos e3] at h; cases h
 · rename_i e
   have := rc_nm (p := p) (c := c) (b := false) (s := s) (k := 2) (i := 2) (j := 0) (by decide) (by decide)
   rw [if_neg (by omega)] at this
   exact this
 · have := rc_nm (p := p) (c := c) (b := true) (s := s) (k := 2) (i := 0) (j := 0) (by decide) (by decide)
   rw [if_pos (by omega)] at this
   exact this
theorem nmd_nil {p : Int} {c : Nat → Int} (h : nmd p c 3 = []) {s : Nat} (hs : s < 3) : (rowF p s (c s)).2.1 = [] ∧ (wayF p s (c s / 5)).2.1 = [] := by
 unfold nmd at h
 have := (List.flatMap_eq_nil_iff.mp h) s (List.mem_range.mpr hs)
 exact List.append_eq_nil_iff.mp this
theorem sh_rc {p : Int} {c : Nat → Int} {s : Nat} (hs : s < 3) (h : nmd p c 3 = []) : shRc (shL p c) s (shK p c s) = (rowF p s (c s)).2.2 ++ (wayF p s (c s / 5)).2.2 := by
 obtain ⟨h1, h2⟩ := nmd_nil h hs
 show (rcFl (shL p c) s 0 none ++ (rcFl (shL p c) s 1 (rowF p s (c s)).1 ++ (rcFl (shL p c) s 2 (wayF p s (c s / 5)).1.2 ++ []))) = _
 rw [row_rc hs h1, way_rc hs h2, List.append_nil]
 rfl
theorem rc_all {p : Int} {c : Nat → Int} (h : nmd p c 3 = []) : rcAll (shL p c) = rcd p c 3 := by
 show ([shRc (shL p c) 0 (shK p c 0), shRc (shL p c) 1 (shK p c 1), shRc (shL p c) 2 (shK p c 2)]).flatten = _
 rw [sh_rc (by decide) h, sh_rc (by decide) h, sh_rc (by decide) h]
 rfl
theorem gs_sh {p : Int} {c : Nat → Int} (h : nmd p c 3 = []) : GS (shL p c) := fun t ht o ho a ha => by
 obtain ⟨s, hs, rfl⟩ := List.mem_map.mp ht
 have hs := List.mem_range.mp hs
 obtain ⟨h1, h2⟩ := nmd_nil h hs
 have key : ∀ {k : Nat} {b : Bool}, k < 6 → a = .is (nmF p k) b → (∃ i j, Pl (shL p c) a.nm i j) ∧ a.nm.length ≤ 100 := fun {k b} hk e => by
   subst e
   refine ⟨⟨k % 3, k / 3, ?_⟩, nm_le _ _⟩
   have := pl_of (p := p) (c := c) (i := k % 3) (j := k / 3) (by omega) (by omega)
   rw [show k % 3 + 3 * (k / 3) = k by omega] at this
   exact this
 rcases List.mem_append.mp ho with ho | ho
 · rcases List.mem_cons.mp ho with e | ho
   · rw [e] at ha; cases ha
   · have e := List.mem_singleton.mp ho
     rw [e] at ha
     have ha : (rowF p s (c s)).1 = some a := ha
     generalize c s = x at h1 ha
     unfold rowF at h1 ha
     repeat' split at ha
     · rename_i e; rw [if_pos e] at h1; cases h1
     · rename_i e e2; rw [if_neg e, if_pos e2] at h1; cases h1
     · exact key (by omega) (Option.some.inj ha).symm
     · cases ha
 · have e := List.mem_singleton.mp ho
   rw [e] at ha
   have ha : (wayF p s (c s / 5)).1.2 = some a := ha
   generalize c s / 5 = x at h2 ha
   unfold wayF at h2 ha
   repeat' split at ha
   · rename_i e; rw [if_pos e] at h2; cases h2
   · rename_i e e2; rw [if_neg e, if_pos e2] at h2; cases h2
   · rename_i e e2 e3; rw [if_neg e, if_neg e2, if_pos e3] at h2; cases h2
   · exact key (k := 2) (by decide) (Option.some.inj ha).symm
   · exact key (k := 0) (by decide) (Option.some.inj ha).symm
theorem ns_no {p : Int} {c : Nat → Int} {x : Int} (n : ¬ c 4 % 5 = 0) : nsOf (shL p c) (sumF p x).1 = [20, 0, 3, 21, 1, 4, 22, 2, 5, 10, 11].map (nmF p) := by
 unfold nsOf
 rw [sum_nm]
 show [(shK p c 0).nm, nmF p 0, nmF p 3, (shK p c 1).nm, nmF p 1, nmF p 4, (shK p c 2).nm, nmF p 2, nmF p 5] ++ _ = _
 rw [shK_nm n, shK_nm n, shK_nm n]; rfl
theorem ns_yes {p : Int} {c : Nat → Int} {x : Int} (n : c 4 % 5 = 0) : nsOf (shL p c) (sumF p x).1 = [20, 0, 3, 21, 1, 4, 20, 2, 5, 10, 11].map (nmF p) := by
 unfold nsOf
 rw [sum_nm]
 show [(shK p c 0).nm, nmF p 0, nmF p 3, (shK p c 1).nm, nmF p 1, nmF p 4, (shK p c 2).nm, nmF p 2, nmF p 5] ++ _ = _
 rw [show (shK p c 0).nm = nmF p 20 by show (if (0 : Nat) = 2 ∧ c 4 % 5 = 0 then nmF p 20 else nmF p (20 + 0)) = _; rw [if_neg (fun h => absurd h.1 (by decide))], show (shK p c 1).nm = nmF p 21 by show (if (1 : Nat) = 2 ∧ c 4 % 5 = 0 then nmF p 20 else nmF p (20 + 1)) = _; rw [if_neg (fun h => absurd h.1 (by decide))], show (shK p c 2).nm = nmF p 20 by show (if (2 : Nat) = 2 ∧ c 4 % 5 = 0 then nmF p 20 else nmF p (20 + 2)) = _; rw [if_pos ⟨rfl, n⟩]]; rfl
theorem ns_le {p : Int} {c : Nat → Int} {x : Int} : ∀ z ∈ nsOf (shL p c) (sumF p x).1, z.length ≤ 100 := fun z hz => by
 by_cases n : c 4 % 5 = 0
 · rw [ns_yes n] at hz
   obtain ⟨k, _, rfl⟩ := List.mem_map.mp hz
   exact nm_le _ _
 · rw [ns_no n] at hz
   obtain ⟨k, _, rfl⟩ := List.mem_map.mp hz
   exact nm_le _ _
def Nmd (g : Flt) : Prop := g.1 ≠ .no ∧ g.1 ≠ .rg
theorem row_k {p : Int} {s : Nat} {x : Int} : (∀ g ∈ (rowF p s x).2.1, Nmd g) ∧ ∀ g ∈ (rowF p s x).2.2, Nmd g := by
 unfold rowF
 repeat' split
 all_goals
   refine ⟨fun g hg => ?_, fun g hg => ?_⟩ <;> first
     | (cases hg; done)
     | (rw [List.mem_singleton.mp hg]; exact ⟨(by intro h; cases h), (by intro h; cases h)⟩)
theorem way_k {p : Int} {s : Nat} {x : Int} : (∀ g ∈ (wayF p s x).2.1, Nmd g) ∧ ∀ g ∈ (wayF p s x).2.2, Nmd g := by
 unfold wayF
 repeat' split
 all_goals
   refine ⟨fun g hg => ?_, fun g hg => ?_⟩ <;> first
     | (cases hg; done)
     | (rw [List.mem_singleton.mp hg]; exact ⟨(by intro h; cases h), (by intro h; cases h)⟩)
theorem sum_k {p : Int} {x : Int} : ∀ g ∈ (sumF p x).2.1, Nmd g := by
 unfold sumF
 repeat' split
 all_goals
   intro g hg
   first
     | (cases hg; done)
     | (rw [List.mem_singleton.mp hg]; exact ⟨(by intro h; cases h), (by intro h; cases h)⟩)
theorem nmd_k {p : Int} {c : Nat → Int} {i : Nat} : ∀ g ∈ nmd p c i, Nmd g := fun g hg => by
 obtain ⟨s, _, h⟩ := List.mem_flatMap.mp hg
 exact (List.mem_append.mp h).elim (row_k.1 g) (way_k.1 g)
theorem rcd_k {p : Int} {c : Nat → Int} {i : Nat} : ∀ g ∈ rcd p c i, Nmd g := fun g hg => by
 obtain ⟨s, _, h⟩ := List.mem_flatMap.mp hg
 exact (List.mem_append.mp h).elim (row_k.2 g) (way_k.2 g)
theorem first_is (p : Int) (c : Nat → Int) : ∃ f, First (shL p c) (sumF p (c 3)).1 f ∧ (∀ g, f = some g → g.1 ≠ .no ∧ (g.1 = .rg → g.2 = Str.ofString "")) ∧ (dueF p c)[0]? = some (f.getD noF) := by
 by_cases n : c 4 % 5 = 0
 · refine ⟨some (.tw, nmF p 20), .inl ⟨6, nmF p 20, ?_, rfl⟩, (fun g hg => by cases hg; exact ⟨(by intro h; cases h), fun h => by cases h⟩), ?_⟩
   · rw [ns_yes n]
     exact ⟨rfl, nd_nm (p := p) (L := [20, 0, 3, 21, 1, 4]) (by decide) (by decide), List.mem_cons_self ..⟩
   · unfold dueF dwF; rw [if_pos n]; rfl
 have hnd : (nsOf (shL p c) (sumF p (c 3)).1).Nodup := by rw [ns_no n]; exact nd_nm (by decide) (by decide)
 have base := fun f h => (.inr ⟨hnd, ga_sh p c (c 3), uq_sh p c, h⟩ : First (shL p c) (sumF p (c 3)).1 f)
 have nk : ∀ {g : Flt}, Nmd g → ∀ g', some g = some g' → g'.1 ≠ .no ∧ (g'.1 = .rg → g'.2 = Str.ofString "") := fun {g} h g' e => by cases e; exact ⟨h.1, fun z => absurd z h.2⟩
 have hdue : dueF p c = (nmd p c 3 ++ (sumF p (c 3)).2.1) ++ ((sumF p (c 3)).2.2 ++ (rcd p c 3 ++ [noF])) := by
   unfold dueF dwF noF; rw [if_neg n]; simp [List.append_assoc]
 rw [hdue]
 have hnf := nm_fl (p := p) (c := c) (x := c 3) n
 cases hN : nmd p c 3 ++ (sumF p (c 3)).2.1 with
 | cons g r =>
   refine ⟨some g, base _ (.inl ⟨g, r, hnf.trans hN, rfl⟩), nk ?_, rfl⟩
   have hm : g ∈ nmd p c 3 ++ (sumF p (c 3)).2.1 := by rw [hN]; exact List.mem_cons_self ..
   exact (List.mem_append.mp hm).elim (nmd_k g) (sum_k g)
 | nil =>
   obtain ⟨e1, e2⟩ := List.append_eq_nil_iff.mp hN
   have hgs := gs_sh e1
   rw [List.nil_append]
   have hts : (sumF p (c 3)).1.length = 2 := by have := congrArg List.length (sum_nm p (c 3)); rw [List.length_map] at this; exact this
   by_cases r1 : c 3 % 4 = 1
   · refine ⟨some (.rg, Str.ofString ""), base _ (.inr ⟨hnf.trans hN, hgs, .inl ⟨?_, rfl⟩⟩), (fun g hg => by cases hg; exact ⟨(by intro h; cases h), fun _ => rfl⟩), ?_⟩
     · rw [hts]; unfold sumF; rw [if_pos r1]; exact ring_yes
     · unfold sumF; rw [if_pos r1]; rfl
   · have r2 : ¬ c 3 % 4 = 2 := fun z => by unfold sumF at e2; rw [if_neg r1, if_pos z] at e2; cases e2
     have r3 : ¬ c 3 % 4 = 3 := fun z => by unfold sumF at e2; rw [if_neg r1, if_neg r2, if_pos z] at e2; cases e2
     have hno : itT (sumF p (c 3)).1.length (sumF p (c 3)).1 = [] := by
       rw [hts]; unfold sumF; rw [if_neg r1, if_neg r2, if_neg r3]
       exact ring_no (nm_ne (by decide) (by decide) (by decide)) (nm_ne (by decide) (by decide) (by decide)) (nm_ne (by decide) (by decide) (by decide))
     have hr0 : (sumF p (c 3)).2.2 = [] := by unfold sumF; rw [if_neg r1, if_neg r2, if_neg r3]
     rw [hr0, List.nil_append]
     have hrc := rc_all e1
     cases hR : rcd p c 3 with
     | cons g r =>
       refine ⟨some g, base _ (.inr ⟨hnf.trans hN, hgs, .inr ⟨hno, .inl ⟨g, r, hrc.trans hR, rfl⟩⟩⟩), nk ?_, rfl⟩
       exact rcd_k g (by rw [hR]; exact List.mem_cons_self ..)
     | nil => exact ⟨none, base _ (.inr ⟨hnf.trans hN, hgs, .inr ⟨hno, .inr ⟨hrc.trans hR, rfl⟩⟩⟩), (fun g hg => by cases hg), rfl⟩
end K40
set_option maxHeartbeats 4000000
namespace K40
open PySem L2
seal PE PT PW PA PS PSs PG PGs PI PO PSet OpR UnR CallR TruR IxR SlR PC PPs
local macro_rules | `(tactic| walk_at "rd1") => `(tactic| first
 | (refine And.intro rfl ?_)
 | (refine And.intro (by assumption) ?_)
 | (refine And.intro (fun _ e => e) ?_)
 | (refine And.intro (TyOf.str _) ?_) | (refine And.intro (TyOf.int _) ?_) | (refine And.intro (TyOf.bl _) ?_) | (refine And.intro TyOf.non ?_)
 | (refine iteT ?_) | (refine iteF ?_)
 | (apply Exists.intro))
local macro_rules | `(tactic| walk_at "rd") => `(tactic| repeat (walk_at "rd1"))
def sp_law (K : W.Frag) : Sp := fun vs H Q _ => ∃ (a : Addr) (ns : List Int), vs = [.ref a] ∧ SqL K H a (ns.map V.int) ∧ ns.length ≤ 63 ∧ (∀ n ∈ ns, ib n ≤ 1048576) ∧ ∀ H', Q (.bl true) H'
section
variable {P : Program} {w : World} {K : W.Frag} {mg : Str → Option Value} {base : Heap} {A : Adr}
theorem ok_law (T : Txt K mg A) : FnOk P w K mg base CX0 40 A.f_law A.d_law ["_law_script"] (sp_law K) := by
 have G_law_cell := ok_law_cell (P := P) (w := w) (base := base) T
 have G_law_paper := ok_law_paper (P := P) (w := w) (base := base) T
 have G_law_fault := ok_fault (P := P) (w := w) (base := base) T
 refine T.F_law.ok sc_law (fun vs H Q E h => ?_) (fun cdv A0 outer s H vs Q E hr h => ?_)
 · obtain ⟨a, ns, rfl, _⟩ := h
   rfl
 obtain ⟨a, ns, rfl, hS, hl, hb, q⟩ := h
 have hNs : Ns ns := hb
 have hl' : ns.length ≤ 1000 := by omega
 refine ⟨_, (zF (ps_forR PassesOwn.never rfl (pi_range1 rfl T.n_range (zA zJ zC)) (zS (i := 1) sc_law.nd rfl (by first | exact Or.inl rfl | exact Or.inr rfl)) (zF (ps_compR (i := 2) sc_law.nd rfl (by first | exact Or.inl rfl | exact Or.inr rfl) (xF (x := "_law_k") (M := ["_law_script", "_law_turn", "_law_cells", "_law_paper_here", "_law_due"]) rfl (by rfl)) rfl (pi_range1 rfl T.n_range (zA zJ zC)) (fun _ _ _ _ => (zU yU (zV G_law_cell (hr.mono (by first | decide | omega)) rfl T.m_law_cell T.k_law_cell T.b_law_cell .nil yB (zA (pv 1) (zA (zU xR (zU xR zJ (zU op_mulB zJ (pv 2))) (pv 0)) zC))) (zU op_pow zJ zJ))))
     (zF (ps_asg (zV G_law_paper (hr.mono (by first | decide | omega)) rfl T.m_law_paper T.k_law_paper T.b_law_paper .nil yB (zA (pv 0) (zA (pv 2) zC))) (pg_tup rfl (yD (zS (i := 3) sc_law.nd rfl (by first | exact Or.inl rfl | exact Or.inr rfl)) (yD (zS (i := 4) sc_law.nd rfl (by first | exact Or.inl rfl | exact Or.inr rfl)) xI))))
     (zH (yN (yC (op_neJ (hu20 hr)) (zV G_law_fault (hr.mono (by first | decide | omega)) rfl T.m_law_fault T.k_law_fault T.b_law_fault .nil yB (zA (pv 3) zC)) (xK xG (pv 4) zJ (fun _ _ => rfl)) (yJ _)) (zH (zY pe_bl)) zW)))))
     (zH (zY pe_bl))), ?_⟩
 refine ⟨_, rfl, (by decide), (by decide), ?_⟩
 refine for_rangeR (fun i σ G => ∃ u1 u2 u3 u4, σ = [some (.ref a), u1, u2, u3, u4] ∧ Same H G) ⟨_, _, _, _, rfl, Same.refl _⟩ (fun i σ G hi hw => ?_) (fun σ G hw => q G)
 obtain ⟨u1, u2, u3, u4, rfl, sG⟩ := hw
 have hi3 : i < 3 := hi
 rw [show ((0 : Int) + (i : Nat)) = ((i : Nat) : Int) from Int.zero_add _]
 obtain ⟨c, hc⟩ : ∃ c : Nat → Int, ∀ k, c k = cellF ns (1 + 5 * i + k) % 10 ^ (40 : Int).toNat := ⟨_, fun _ => rfl⟩
 refine ⟨_, rfl, (by decide), (by decide), ?_⟩
 refine comp_rangeR (yP (m := 100) (by decide)) (fun j ys G' => G = G' ∧ ys = (List.range j).map fun k => V.int (c k)) ⟨rfl, rfl⟩ (fun j ys G' hj hy hw => ?_) (fun ys G' hy hw lc hlc => ?_)
 · obtain ⟨rfl, rfl⟩ := hw
   refine ⟨_, rfl, _, rfl, _, _, rfl, rfl, ⟨ib_e (by omega) (by omega), ib_e (by omega) (by omega)⟩, _, _, rfl, rfl, _, rfl, _, _, rfl, rfl, a, ns, 1 + 5 * i + j, (by dsimp only; rw [show ((1 : Int) + 5 * (i : Nat) + (0 + (j : Nat))) = ((1 + 5 * i + j : Nat) : Int) by omega]; rfl), sG.seq hS, (by omega), hl', hNs, ?_⟩
   refine ⟨_, _, rfl, rfl, ⟨by decide, by decide, by decide⟩, _, _, rfl, rfl, p40, rfl, ?_⟩
   rw [List.range_succ, List.map_append]
   dsimp only
   rw [← hc j]; rfl
 obtain ⟨rfl, rfl⟩ := hw
 have s1 := zD hlc (.lst (cV c))
 have hlc' : (upd G lc (.lst (cV c))) lc = some (.lst (cV c)) := zB
 have s2 := sG.trans s1
 generalize hH1 : upd G lc (.lst (cV c)) = H1 at s1 hlc' s2
 rw [show upd G lc (.lst ((List.range (Int.toNat 5)).map fun k => V.int (c k))) = H1 from hH1]
 dsimp only [gName, List.set_cons_succ, List.set_cons_zero]
 refine ⟨_, rfl, _, rfl, a, lc, ns, c, rfl, s2.seq hS, hl', hNs, hlc', fun t pa l H2 s3 ht hPa hD => ?_⟩
 generalize cellF ns 0 = p at hPa hD
 refine ⟨t, _, rfl, SqT.of ht, rfl, _, _, rfl, _, _, rfl, rfl, ?_⟩
 dsimp only [gName, List.set_cons_succ, List.set_cons_zero]
 obtain ⟨f, hF, hf, hd⟩ := first_is p c
 obtain ⟨ds, hl0, hds⟩ := hD
 obtain ⟨x0, hx0, t0, rfl, ht0⟩ := xJ hds hd
 refine ⟨_, rfl, pa, _, _, f, rfl, hPa, gp_sh p c (c 3), ns_le, hF, hf, fun x H3 s4 hx => ?_⟩
 obtain ⟨t1, rfl, ht1⟩ := hx
 refine ⟨_, rfl, l, _, _, _, rfl, rfl, SqL.of (s4 _ _ hl0), yS (j := 0) hx0, ?_⟩
 refine ⟨_, eqj_ftups (SqT.of ht1) (SqT.of (s4 _ _ ht0)) rfl rfl, _, rfl, ?_⟩
 rw [show eqL [V.str (fw (f.getD noF).1), .str (f.getD noF).2] [V.str (fw (f.getD noF).1), .str (f.getD noF).2] = true from eqL_self rfl]
 refine iteF ?_
 exact ⟨_, _, _, _, rfl, s2.trans (s3.trans s4)⟩
end
end K40
set_option maxHeartbeats 4000000
namespace K40
open PySem L2
theorem txt_mk {K : W.Frag} {h : Heap} {mg : Str → Option Value} (X : K.In h) (G : h.Ns mainGlobals mg)
{f0 f1 f2 f3 f4 f5 f6 f7 f8 f9 f10 f11 f12 dT12 f13 f14 f15 f16 f17 f18 f19 f20 f21 f22 f23 f24 f25 f26 f27 f28 f29 f30 f31 f32 f33 dT33 f34 f35 f36 f37 f38 f39 f40 f41 f42 f43 f44 f45 f46 f47 : Addr} {od0 an0 od1 an1 od2 an2 od3 an3 od4 an4 od5 an5 od6 an6 od7 an7 od8 an8 od9 an9 od10 an10 od11 an11 od12 an12 dD12 od13 an13 od14 an14 od15 an15 od16 an16 od17 an17 od18 an18 od19 an19 od20 an20 od21 an21 od22 an22 od23 an23 od24 an24 od25 an25 od26 an26 od27 an27 od28 an28 od29 an29 od30 an30 od31 an31 od32 an32 od33 an33 dD33 od34 an34 od35 an35 od36 an36 od37 an37 od38 an38 od39 an39 od40 an40 od41 an41 od42 an42 od43 an43 od44 an44 od45 an45 od46 an46 od47 an47 : Option Addr} {sl0 sl1 sl2 sl3 sl4 sl5 sl6 sl7 sl8 sl9 sl10 sl11 sl12 dS12 sl13 sl14 sl15 sl16 sl17 sl18 sl19 sl20 sl21 sl22 sl23 sl24 sl25 sl26 sl27 sl28 sl29 sl30 sl31 sl32 sl33 dS33 sl34 sl35 sl36 sl37 sl38 sl39 sl40 sl41 sl42 sl43 sl44 sl45 sl46 sl47 : Array (Option Value)} {oc0 kV0 dc0 pm0 cd0 ct0 oc1 kV1 dc1 pm1 cd1 ct1 oc2 kV2 dc2 pm2 cd2 ct2 oc3 kV3 dc3 pm3 cd3 ct3 oc4 kV4 dc4 pm4 cd4 ct4 oc5 kV5 dc5 pm5 cd5 ct5 oc6 kV6 dc6 pm6 cd6 ct6 oc7 kV7 dc7 pm7 cd7 ct7 oc8 kV8 dc8 pm8 cd8 ct8 oc9 kV9 dc9 pm9 cd9 ct9 oc10 kV10 dc10 pm10 cd10 ct10 oc11 kV11 dc11 pm11 cd11 ct11 oc12 kV12 dc12 pm12 cd12 ct12 oc13 kV13 dc13 pm13 cd13 ct13 oc14 kV14 dc14 pm14 cd14 ct14 oc15 kV15 dc15 pm15 cd15 ct15 oc16 kV16 dc16 pm16 cd16 ct16 oc17 kV17 dc17 pm17 cd17 ct17 oc18 kV18 dc18 pm18 cd18 ct18 oc19 kV19 dc19 pm19 cd19 ct19 oc20 kV20 dc20 pm20 cd20 ct20 oc21 kV21 dc21 pm21 cd21 ct21 oc22 kV22 dc22 pm22 cd22 ct22 oc23 kV23 dc23 pm23 cd23 ct23 oc24 kV24 dc24 pm24 cd24 ct24 oc25 kV25 dc25 pm25 cd25 ct25 oc26 kV26 dc26 pm26 cd26 ct26 oc27 kV27 dc27 pm27 cd27 ct27 oc28 kV28 dc28 pm28 cd28 ct28 oc29 kV29 dc29 pm29 cd29 ct29 oc30 kV30 dc30 pm30 cd30 ct30 oc31 kV31 dc31 pm31 cd31 ct31 oc32 kV32 dc32 pm32 cd32 ct32 oc33 kV33 dc33 pm33 cd33 ct33 oc34 kV34 dc34 pm34 cd34 ct34 oc35 kV35 dc35 pm35 cd35 ct35 oc36 kV36 dc36 pm36 cd36 ct36 oc37 kV37 dc37 pm37 cd37 ct37 oc38 kV38 dc38 pm38 cd38 ct38 oc39 kV39 dc39 pm39 cd39 ct39 oc40 kV40 dc40 pm40 cd40 ct40 oc41 kV41 dc41 pm41 cd41 ct41 oc42 kV42 dc42 pm42 cd42 ct42 oc43 kV43 dc43 pm43 cd43 ct43 oc44 kV44 dc44 pm44 cd44 ct44 oc45 kV45 dc45 pm45 cd45 ct45 oc46 kV46 dc46 pm46 cd46 ct46 oc47 kV47 dc47 pm47 cd47 ct47 : Value} {dN12 dN33 : Nat}
 {ga0 : Addr} {go0 : Value} {gd0 : Option Addr} {gn0 : Nat} {ge0 : Array DictEntry} {gs0 : Array (Option Value)}
{k_Ask k_AskError k_Compare k_Is k_Kind k_Names k_NoWay k_OutOfReach k_Paper k_Pick k_Reach k_Ring k_Row k_Saying k_Sheet k_Twice k_Unknown k_Whole k_WrongKind k_YesNo : Addr} {kd_AskError kd_Names kd_NoWay kd_OutOfReach kd_Pick kd_Ring kd_Twice kd_Unknown kd_Whole kd_WrongKind xk_NoWay xk_OutOfReach xk_Ring xk_Twice xk_Unknown xk_WrongKind : ClassData} {xo_NoWay xo_OutOfReach xo_Ring xo_Twice xo_Unknown xo_WrongKind : Value} {xd_NoWay xd_OutOfReach xd_Ring xd_Twice xd_Unknown xd_WrongKind : Option Addr} {xs_NoWay xs_OutOfReach xs_Ring xs_Twice xs_Unknown xs_WrongKind : Array (Option Value)}
 (h5v : W.nsIn K mainGlobals "Ask" = some (some (.ref k_Ask)))
 (h5w : W.nsIn K mainGlobals "AskError" = some (some (.ref k_AskError)))
 (h5x : W.nsIn K mainGlobals "Compare" = some (some (.ref k_Compare)))
 (h5y : W.nsIn K mainGlobals "Is" = some (some (.ref k_Is)))
 (h5z : W.nsIn K mainGlobals "Kind" = some (some (.ref k_Kind)))
 (h60 : W.nsIn K mainGlobals "Names" = some (some (.ref k_Names)))
 (h61 : W.nsIn K mainGlobals "NoWay" = some (some (.ref k_NoWay)))
 (h62 : W.nsIn K mainGlobals "OutOfReach" = some (some (.ref k_OutOfReach)))
 (h63 : W.nsIn K mainGlobals "Paper" = some (some (.ref k_Paper)))
 (h64 : W.nsIn K mainGlobals "Pick" = some (some (.ref k_Pick)))
 (h65 : W.nsIn K mainGlobals "Reach" = some (some (.ref k_Reach)))
 (h66 : W.nsIn K mainGlobals "Ring" = some (some (.ref k_Ring)))
 (h67 : W.nsIn K mainGlobals "Row" = some (some (.ref k_Row)))
 (h68 : W.nsIn K mainGlobals "Saying" = some (some (.ref k_Saying)))
 (h69 : W.nsIn K mainGlobals "Sheet" = some (some (.ref k_Sheet)))
 (h6a : W.nsIn K mainGlobals "Twice" = some (some (.ref k_Twice)))
 (h6b : W.nsIn K mainGlobals "Unknown" = some (some (.ref k_Unknown)))
 (h6c : W.nsIn K mainGlobals "Whole" = some (some (.ref k_Whole)))
 (h6d : W.nsIn K mainGlobals "WrongKind" = some (some (.ref k_WrongKind)))
 (h6e : W.nsIn K mainGlobals "YesNo" = some (some (.ref k_YesNo)))
 (h00 : W.findIn K (.ref k_Twice) "__init__" = some (some (.ref f0)))
 (h01 : K.lookup f0 = some ⟨oc0, od0, .func (W.fnOf "__init__" "Twice.__init__" (defArgs s_c_Twice___init) (defBody s_c_Twice___init) (defScope s_c_Twice___init) .none kV0 dc0 pm0 an0 cd0 ct0), sl0⟩)
 (h02 : W.codeIn K cd0 "Twice.__init__" = true)
 (h03 : W.keepIn K (.ref f0) = true)
 (h04 : W.findIn K (.ref k_Unknown) "__init__" = some (some (.ref f1)))
 (h05 : K.lookup f1 = some ⟨oc1, od1, .func (W.fnOf "__init__" "Unknown.__init__" (defArgs s_c_Unknown___init) (defBody s_c_Unknown___init) (defScope s_c_Unknown___init) .none kV1 dc1 pm1 an1 cd1 ct1), sl1⟩)
 (h06 : W.codeIn K cd1 "Unknown.__init__" = true)
 (h07 : W.keepIn K (.ref f1) = true)
 (h08 : W.findIn K (.ref k_WrongKind) "__init__" = some (some (.ref f2)))
 (h09 : K.lookup f2 = some ⟨oc2, od2, .func (W.fnOf "__init__" "WrongKind.__init__" (defArgs s_c_WrongKind___init) (defBody s_c_WrongKind___init) (defScope s_c_WrongKind___init) .none kV2 dc2 pm2 an2 cd2 ct2), sl2⟩)
 (h0a : W.codeIn K cd2 "WrongKind.__init__" = true)
 (h0b : W.keepIn K (.ref f2) = true)
 (h0c : W.findIn K (.ref k_NoWay) "__init__" = some (some (.ref f3)))
 (h0d : K.lookup f3 = some ⟨oc3, od3, .func (W.fnOf "__init__" "NoWay.__init__" (defArgs s_c_NoWay___init) (defBody s_c_NoWay___init) (defScope s_c_NoWay___init) .none kV3 dc3 pm3 an3 cd3 ct3), sl3⟩)
 (h0e : W.codeIn K cd3 "NoWay.__init__" = true)
 (h0f : W.keepIn K (.ref f3) = true)
 (h0g : W.findIn K (.ref k_OutOfReach) "__init__" = some (some (.ref f4)))
 (h0h : K.lookup f4 = some ⟨oc4, od4, .func (W.fnOf "__init__" "OutOfReach.__init__" (defArgs s_c_OutOfReach___init) (defBody s_c_OutOfReach___init) (defScope s_c_OutOfReach___init) .none kV4 dc4 pm4 an4 cd4 ct4), sl4⟩)
 (h0i : W.codeIn K cd4 "OutOfReach.__init__" = true)
 (h0j : W.keepIn K (.ref f4) = true)
 (h0k : W.findIn K (.ref k_Ring) "__init__" = some (some (.ref f5)))
 (h0l : K.lookup f5 = some ⟨oc5, od5, .func (W.fnOf "__init__" "Ring.__init__" (defArgs s_c_Ring___init) (defBody s_c_Ring___init) (defScope s_c_Ring___init) .none kV5 dc5 pm5 an5 cd5 ct5), sl5⟩)
 (h0m : W.codeIn K cd5 "Ring.__init__" = true)
 (h0n : W.keepIn K (.ref f5) = true)
 (h0o : W.findIn K (.ref k_Kind) "__init__" = some (some (.ref f6)))
 (h0p : K.lookup f6 = some ⟨oc6, od6, .func (W.fnOf "__init__" "Kind.__init__" (defArgs s_c_Kind___init) (defBody s_c_Kind___init) (defScope s_c_Kind___init) .none kV6 dc6 pm6 an6 cd6 ct6), sl6⟩)
 (h0q : W.codeIn K cd6 "Kind.__init__" = true)
 (h0r : W.keepIn K (.ref f6) = true)
 (h0s : W.findIn K (.ref k_YesNo) "__init__" = some (some (.ref f7)))
 (h0t : K.lookup f7 = some ⟨oc7, od7, .func (W.fnOf "__init__" "YesNo.__init__" (defArgs s_c_YesNo___init) (defBody s_c_YesNo___init) (defScope s_c_YesNo___init) .none kV7 dc7 pm7 an7 cd7 ct7), sl7⟩)
 (h0u : W.codeIn K cd7 "YesNo.__init__" = true)
 (h0v : W.keepIn K (.ref f7) = true)
 (h0w : W.findIn K (.ref k_YesNo) "fits" = some (some (.ref f8)))
 (h0x : K.lookup f8 = some ⟨oc8, od8, .func (W.fnOf "fits" "YesNo.fits" (defArgs s_c_YesNo_fits) (defBody s_c_YesNo_fits) (defScope s_c_YesNo_fits) .none kV8 dc8 pm8 an8 cd8 ct8), sl8⟩)
 (h0y : W.codeIn K cd8 "YesNo.fits" = true)
 (h0z : W.keepIn K (.ref f8) = true)
 (h10 : W.findIn K (.ref k_YesNo) "answer_of" = some (some (.ref f9)))
 (h11 : K.lookup f9 = some ⟨oc9, od9, .func (W.fnOf "answer_of" "YesNo.answer_of" (defArgs s_c_YesNo_answer_of) (defBody s_c_YesNo_answer_of) (defScope s_c_YesNo_answer_of) .none kV9 dc9 pm9 an9 cd9 ct9), sl9⟩)
 (h12 : W.codeIn K cd9 "YesNo.answer_of" = true)
 (h13 : W.keepIn K (.ref f9) = true)
 (h14 : W.findIn K (.ref k_YesNo) "rank" = some (some (.ref f10)))
 (h15 : K.lookup f10 = some ⟨oc10, od10, .func (W.fnOf "rank" "YesNo.rank" (defArgs s_c_YesNo_rank) (defBody s_c_YesNo_rank) (defScope s_c_YesNo_rank) .none kV10 dc10 pm10 an10 cd10 ct10), sl10⟩)
 (h16 : W.codeIn K cd10 "YesNo.rank" = true)
 (h17 : W.keepIn K (.ref f10) = true)
 (h18 : W.findIn K (.ref k_Row) "__init__" = some (some (.ref f11)))
 (h19 : K.lookup f11 = some ⟨oc11, od11, .func (W.fnOf "__init__" "Row.__init__" (defArgs s_c_Row___init) (defBody s_c_Row___init) (defScope s_c_Row___init) .none kV11 dc11 pm11 an11 cd11 ct11), sl11⟩)
 (h1a : W.codeIn K cd11 "Row.__init__" = true)
 (h1b : W.keepIn K (.ref f11) = true)
 (h1c : W.findIn K (.ref k_Ask) "__init__" = some (some (.ref f12)))
 (h1d : K.lookup f12 = some ⟨oc12, od12, .func (W.fnOf "__init__" "Ask.__init__" (defArgs s_c_Ask___init) (defBody s_c_Ask___init) (defScope s_c_Ask___init) (.ref dT12) kV12 dc12 pm12 an12 cd12 ct12), sl12⟩)
 (h1e : W.codeIn K cd12 "Ask.__init__" = true)
 (h1f : W.keepIn K (.ref f12) = true)
 (h1g : K.lookup dT12 = some ⟨.type "tuple", dD12, .seq ([.none] : List Value).toArray dN12, dS12⟩)
 (h1h : W.findIn K (.ref k_Sheet) "__init__" = some (some (.ref f13)))
 (h1i : K.lookup f13 = some ⟨oc13, od13, .func (W.fnOf "__init__" "Sheet.__init__" (defArgs s_c_Sheet___init) (defBody s_c_Sheet___init) (defScope s_c_Sheet___init) .none kV13 dc13 pm13 an13 cd13 ct13), sl13⟩)
 (h1j : W.codeIn K cd13 "Sheet.__init__" = true)
 (h1k : W.keepIn K (.ref f13) = true)
 (h1l : W.findIn K (.ref k_Paper) "__init__" = some (some (.ref f14)))
 (h1m : K.lookup f14 = some ⟨oc14, od14, .func (W.fnOf "__init__" "Paper.__init__" (defArgs s_c_Paper___init) (defBody s_c_Paper___init) (defScope s_c_Paper___init) .none kV14 dc14 pm14 an14 cd14 ct14), sl14⟩)
 (h1n : W.codeIn K cd14 "Paper.__init__" = true)
 (h1o : W.keepIn K (.ref f14) = true)
 (h1p : W.nsIn K mainGlobals "kinds_of" = some (some (.ref f15)))
 (h1q : K.lookup f15 = some ⟨oc15, od15, .func (W.fnOf "kinds_of" "kinds_of" (defArgs s_kinds_of) (defBody s_kinds_of) (defScope s_kinds_of) .none kV15 dc15 pm15 an15 cd15 ct15), sl15⟩)
 (h1r : W.codeIn K cd15 "kinds_of" = true)
 (h1s : W.keepIn K (.ref f15) = true)
 (h1t : W.nsIn K mainGlobals "names_given" = some (some (.ref f16)))
 (h1u : K.lookup f16 = some ⟨oc16, od16, .func (W.fnOf "names_given" "names_given" (defArgs s_names_given) (defBody s_names_given) (defScope s_names_given) .none kV16 dc16 pm16 an16 cd16 ct16), sl16⟩)
 (h1v : W.codeIn K cd16 "names_given" = true)
 (h1w : W.keepIn K (.ref f16) = true)
 (h1x : W.nsIn K mainGlobals "look_for_twice" = some (some (.ref f17)))
 (h1y : K.lookup f17 = some ⟨oc17, od17, .func (W.fnOf "look_for_twice" "look_for_twice" (defArgs s_look_for_twice) (defBody s_look_for_twice) (defScope s_look_for_twice) .none kV17 dc17 pm17 an17 cd17 ct17), sl17⟩)
 (h1z : W.codeIn K cd17 "look_for_twice" = true)
 (h20 : W.keepIn K (.ref f17) = true)
 (h21 : W.nsIn K mainGlobals "saying_of" = some (some (.ref f18)))
 (h22 : K.lookup f18 = some ⟨oc18, od18, .func (W.fnOf "saying_of" "saying_of" (defArgs s_saying_of) (defBody s_saying_of) (defScope s_saying_of) .none kV18 dc18 pm18 an18 cd18 ct18), sl18⟩)
 (h23 : W.codeIn K cd18 "saying_of" = true)
 (h24 : W.keepIn K (.ref f18) = true)
 (h25 : W.nsIn K mainGlobals "atoms_of" = some (some (.ref f19)))
 (h26 : K.lookup f19 = some ⟨oc19, od19, .func (W.fnOf "atoms_of" "atoms_of" (defArgs s_atoms_of) (defBody s_atoms_of) (defScope s_atoms_of) .none kV19 dc19 pm19 an19 cd19 ct19), sl19⟩)
 (h27 : W.codeIn K cd19 "atoms_of" = true)
 (h28 : W.keepIn K (.ref f19) = true)
 (h29 : W.nsIn K mainGlobals "look_at_atoms" = some (some (.ref f20)))
 (h2a : K.lookup f20 = some ⟨oc20, od20, .func (W.fnOf "look_at_atoms" "look_at_atoms" (defArgs s_look_at_atoms) (defBody s_look_at_atoms) (defScope s_look_at_atoms) .none kV20 dc20 pm20 an20 cd20 ct20), sl20⟩)
 (h2b : W.codeIn K cd20 "look_at_atoms" = true)
 (h2c : W.keepIn K (.ref f20) = true)
 (h2d : W.nsIn K mainGlobals "look_at_parts" = some (some (.ref f21)))
 (h2e : K.lookup f21 = some ⟨oc21, od21, .func (W.fnOf "look_at_parts" "look_at_parts" (defArgs s_look_at_parts) (defBody s_look_at_parts) (defScope s_look_at_parts) .none kV21 dc21 pm21 an21 cd21 ct21), sl21⟩)
 (h2f : W.codeIn K cd21 "look_at_parts" = true)
 (h2g : W.keepIn K (.ref f21) = true)
 (h2h : W.nsIn K mainGlobals "look_at_names" = some (some (.ref f22)))
 (h2i : K.lookup f22 = some ⟨oc22, od22, .func (W.fnOf "look_at_names" "look_at_names" (defArgs s_look_at_names) (defBody s_look_at_names) (defScope s_look_at_names) .none kV22 dc22 pm22 an22 cd22 ct22), sl22⟩)
 (h2j : W.codeIn K cd22 "look_at_names" = true)
 (h2k : W.keepIn K (.ref f22) = true)
 (h2l : W.nsIn K mainGlobals "sums_in" = some (some (.ref f23)))
 (h2m : K.lookup f23 = some ⟨oc23, od23, .func (W.fnOf "sums_in" "sums_in" (defArgs s_sums_in) (defBody s_sums_in) (defScope s_sums_in) .none kV23 dc23 pm23 an23 cd23 ct23), sl23⟩)
 (h2n : W.codeIn K cd23 "sums_in" = true)
 (h2o : W.keepIn K (.ref f23) = true)
 (h2p : W.nsIn K mainGlobals "look_for_ring" = some (some (.ref f24)))
 (h2q : K.lookup f24 = some ⟨oc24, od24, .func (W.fnOf "look_for_ring" "look_for_ring" (defArgs s_look_for_ring) (defBody s_look_for_ring) (defScope s_look_for_ring) .none kV24 dc24 pm24 an24 cd24 ct24), sl24⟩)
 (h2r : W.codeIn K cd24 "look_for_ring" = true)
 (h2s : W.keepIn K (.ref f24) = true)
 (h2t : W.findIn K (.ref k_Reach) "__init__" = some (some (.ref f25)))
 (h2u : K.lookup f25 = some ⟨oc25, od25, .func (W.fnOf "__init__" "Reach.__init__" (defArgs s_c_Reach___init) (defBody s_c_Reach___init) (defScope s_c_Reach___init) .none kV25 dc25 pm25 an25 cd25 ct25), sl25⟩)
 (h2v : W.codeIn K cd25 "Reach.__init__" = true)
 (h2w : W.keepIn K (.ref f25) = true)
 (h2x : W.findIn K (.ref k_Reach) "comes_again" = some (some (.ref f26)))
 (h2y : K.lookup f26 = some ⟨oc26, od26, .func (W.fnOf "comes_again" "Reach.comes_again" (defArgs s_c_Reach_comes_again) (defBody s_c_Reach_comes_again) (defScope s_c_Reach_comes_again) .none kV26 dc26 pm26 an26 cd26 ct26), sl26⟩)
 (h2z : W.codeIn K cd26 "Reach.comes_again" = true)
 (h30 : W.keepIn K (.ref f26) = true)
 (h31 : W.findIn K (.ref k_Reach) "is_within" = some (some (.ref f27)))
 (h32 : K.lookup f27 = some ⟨oc27, od27, .func (W.fnOf "is_within" "Reach.is_within" (defArgs s_c_Reach_is_within) (defBody s_c_Reach_is_within) (defScope s_c_Reach_is_within) .none kV27 dc27 pm27 an27 cd27 ct27), sl27⟩)
 (h33 : W.codeIn K cd27 "Reach.is_within" = true)
 (h34 : W.keepIn K (.ref f27) = true)
 (h35 : W.findIn K (.ref k_Reach) "reaches_question" = some (some (.ref f28)))
 (h36 : K.lookup f28 = some ⟨oc28, od28, .func (W.fnOf "reaches_question" "Reach.reaches_question" (defArgs s_c_Reach_reaches_question) (defBody s_c_Reach_reaches_question) (defScope s_c_Reach_reaches_question) .none kV28 dc28 pm28 an28 cd28 ct28), sl28⟩)
 (h37 : W.codeIn K cd28 "Reach.reaches_question" = true)
 (h38 : W.keepIn K (.ref f28) = true)
 (h39 : W.findIn K (.ref k_Reach) "look_at_saying" = some (some (.ref f29)))
 (h3a : K.lookup f29 = some ⟨oc29, od29, .func (W.fnOf "look_at_saying" "Reach.look_at_saying" (defArgs s_c_Reach_look_at_saying) (defBody s_c_Reach_look_at_saying) (defScope s_c_Reach_look_at_saying) .none kV29 dc29 pm29 an29 cd29 ct29), sl29⟩)
 (h3b : W.codeIn K cd29 "Reach.look_at_saying" = true)
 (h3c : W.keepIn K (.ref f29) = true)
 (h3d : W.findIn K (.ref k_Reach) "look_at_sheet" = some (some (.ref f30)))
 (h3e : K.lookup f30 = some ⟨oc30, od30, .func (W.fnOf "look_at_sheet" "Reach.look_at_sheet" (defArgs s_c_Reach_look_at_sheet) (defBody s_c_Reach_look_at_sheet) (defScope s_c_Reach_look_at_sheet) .none kV30 dc30 pm30 an30 cd30 ct30), sl30⟩)
 (h3f : W.codeIn K cd30 "Reach.look_at_sheet" = true)
 (h3g : W.keepIn K (.ref f30) = true)
 (h3h : W.nsIn K mainGlobals "look_for_reach" = some (some (.ref f31)))
 (h3i : K.lookup f31 = some ⟨oc31, od31, .func (W.fnOf "look_for_reach" "look_for_reach" (defArgs s_look_for_reach) (defBody s_look_for_reach) (defScope s_look_for_reach) .none kV31 dc31 pm31 an31 cd31 ct31), sl31⟩)
 (h3j : W.codeIn K cd31 "look_for_reach" = true)
 (h3k : W.keepIn K (.ref f31) = true)
 (h3l : W.nsIn K mainGlobals "look_at" = some (some (.ref f32)))
 (h3m : K.lookup f32 = some ⟨oc32, od32, .func (W.fnOf "look_at" "look_at" (defArgs s_look_at) (defBody s_look_at) (defScope s_look_at) .none kV32 dc32 pm32 an32 cd32 ct32), sl32⟩)
 (h3n : W.codeIn K cd32 "look_at" = true)
 (h3o : W.keepIn K (.ref f32) = true)
 (h3p : W.findIn K (.ref k_Is) "__init__" = some (some (.ref f33)))
 (h3q : K.lookup f33 = some ⟨oc33, od33, .func (W.fnOf "__init__" "Is.__init__" (defArgs s_c_Is___init) (defBody s_c_Is___init) (defScope s_c_Is___init) (.ref dT33) kV33 dc33 pm33 an33 cd33 ct33), sl33⟩)
 (h3r : W.codeIn K cd33 "Is.__init__" = true)
 (h3s : W.keepIn K (.ref f33) = true)
 (h3t : K.lookup dT33 = some ⟨.type "tuple", dD33, .seq ([.none] : List Value).toArray dN33, dS33⟩)
 (h3u : W.findIn K (.ref k_Is) "atoms" = some (some (.ref f34)))
 (h3v : K.lookup f34 = some ⟨oc34, od34, .func (W.fnOf "atoms" "Is.atoms" (defArgs s_c_Is_atoms) (defBody s_c_Is_atoms) (defScope s_c_Is_atoms) .none kV34 dc34 pm34 an34 cd34 ct34), sl34⟩)
 (h3w : W.codeIn K cd34 "Is.atoms" = true)
 (h3x : W.keepIn K (.ref f34) = true)
 (h3y : W.findIn K (.ref k_Is) "settled" = some (some (.ref f35)))
 (h3z : K.lookup f35 = some ⟨oc35, od35, .func (W.fnOf "settled" "Is.settled" (defArgs s_c_Is_settled) (defBody s_c_Is_settled) (defScope s_c_Is_settled) .none kV35 dc35 pm35 an35 cd35 ct35), sl35⟩)
 (h40 : W.codeIn K cd35 "Is.settled" = true)
 (h41 : W.keepIn K (.ref f35) = true)
 (h42 : W.findIn K (.ref k_Compare) "__init__" = some (some (.ref f36)))
 (h43 : K.lookup f36 = some ⟨oc36, od36, .func (W.fnOf "__init__" "Compare.__init__" (defArgs s_c_Compare___init) (defBody s_c_Compare___init) (defScope s_c_Compare___init) .none kV36 dc36 pm36 an36 cd36 ct36), sl36⟩)
 (h44 : W.codeIn K cd36 "Compare.__init__" = true)
 (h45 : W.keepIn K (.ref f36) = true)
 (h46 : W.findIn K (.ref k_Compare) "atoms" = some (some (.ref f37)))
 (h47 : K.lookup f37 = some ⟨oc37, od37, .func (W.fnOf "atoms" "Compare.atoms" (defArgs s_c_Compare_atoms) (defBody s_c_Compare_atoms) (defScope s_c_Compare_atoms) .none kV37 dc37 pm37 an37 cd37 ct37), sl37⟩)
 (h48 : W.codeIn K cd37 "Compare.atoms" = true)
 (h49 : W.keepIn K (.ref f37) = true)
 (h4a : W.findIn K (.ref k_Compare) "settled" = some (some (.ref f38)))
 (h4b : K.lookup f38 = some ⟨oc38, od38, .func (W.fnOf "settled" "Compare.settled" (defArgs s_c_Compare_settled) (defBody s_c_Compare_settled) (defScope s_c_Compare_settled) .none kV38 dc38 pm38 an38 cd38 ct38), sl38⟩)
 (h4c : W.codeIn K cd38 "Compare.settled" = true)
 (h4d : W.keepIn K (.ref f38) = true)
 (h4e : W.nsIn K mainGlobals "_law_cell" = some (some (.ref f39)))
 (h4f : K.lookup f39 = some ⟨oc39, od39, .func (W.fnOf "_law_cell" "_law_cell" (defArgs s_law_cell) (defBody s_law_cell) (defScope s_law_cell) .none kV39 dc39 pm39 an39 cd39 ct39), sl39⟩)
 (h4g : W.codeIn K cd39 "_law_cell" = true)
 (h4h : W.keepIn K (.ref f39) = true)
 (h4i : W.nsIn K mainGlobals "_law_name" = some (some (.ref f40)))
 (h4j : K.lookup f40 = some ⟨oc40, od40, .func (W.fnOf "_law_name" "_law_name" (defArgs s_law_name) (defBody s_law_name) (defScope s_law_name) .none kV40 dc40 pm40 an40 cd40 ct40), sl40⟩)
 (h4k : W.codeIn K cd40 "_law_name" = true)
 (h4l : W.keepIn K (.ref f40) = true)
 (h4m : W.nsIn K mainGlobals "_law_alone" = some (some (.ref f41)))
 (h4n : K.lookup f41 = some ⟨oc41, od41, .func (W.fnOf "_law_alone" "_law_alone" (defArgs s_law_alone) (defBody s_law_alone) (defScope s_law_alone) .none kV41 dc41 pm41 an41 cd41 ct41), sl41⟩)
 (h4o : W.codeIn K cd41 "_law_alone" = true)
 (h4p : W.keepIn K (.ref f41) = true)
 (h4q : W.nsIn K mainGlobals "_law_fault" = some (some (.ref f42)))
 (h4r : K.lookup f42 = some ⟨oc42, od42, .func (W.fnOf "_law_fault" "_law_fault" (defArgs s_law_fault) (defBody s_law_fault) (defScope s_law_fault) .none kV42 dc42 pm42 an42 cd42 ct42), sl42⟩)
 (h4s : W.codeIn K cd42 "_law_fault" = true)
 (h4t : W.keepIn K (.ref f42) = true)
 (h4u : W.nsIn K mainGlobals "_law_row" = some (some (.ref f43)))
 (h4v : K.lookup f43 = some ⟨oc43, od43, .func (W.fnOf "_law_row" "_law_row" (defArgs s_law_row) (defBody s_law_row) (defScope s_law_row) .none kV43 dc43 pm43 an43 cd43 ct43), sl43⟩)
 (h4w : W.codeIn K cd43 "_law_row" = true)
 (h4x : W.keepIn K (.ref f43) = true)
 (h4y : W.nsIn K mainGlobals "_law_way" = some (some (.ref f44)))
 (h4z : K.lookup f44 = some ⟨oc44, od44, .func (W.fnOf "_law_way" "_law_way" (defArgs s_law_way) (defBody s_law_way) (defScope s_law_way) .none kV44 dc44 pm44 an44 cd44 ct44), sl44⟩)
 (h50 : W.codeIn K cd44 "_law_way" = true)
 (h51 : W.keepIn K (.ref f44) = true)
 (h52 : W.nsIn K mainGlobals "_law_sums" = some (some (.ref f45)))
 (h53 : K.lookup f45 = some ⟨oc45, od45, .func (W.fnOf "_law_sums" "_law_sums" (defArgs s_law_sums) (defBody s_law_sums) (defScope s_law_sums) .none kV45 dc45 pm45 an45 cd45 ct45), sl45⟩)
 (h54 : W.codeIn K cd45 "_law_sums" = true)
 (h55 : W.keepIn K (.ref f45) = true)
 (h56 : W.nsIn K mainGlobals "_law_paper" = some (some (.ref f46)))
 (h57 : K.lookup f46 = some ⟨oc46, od46, .func (W.fnOf "_law_paper" "_law_paper" (defArgs s_law_paper) (defBody s_law_paper) (defScope s_law_paper) .none kV46 dc46 pm46 an46 cd46 ct46), sl46⟩)
 (h58 : W.codeIn K cd46 "_law_paper" = true)
 (h59 : W.keepIn K (.ref f46) = true)
 (h5a : W.nsIn K mainGlobals "law" = some (some (.ref f47)))
 (h5b : K.lookup f47 = some ⟨oc47, od47, .func (W.fnOf "law" "law" (defArgs s_law) (defBody s_law) (defScope s_law) .none kV47 dc47 pm47 an47 cd47 ct47), sl47⟩)
 (h5c : W.codeIn K cd47 "law" = true)
 (h5d : W.keepIn K (.ref f47) = true)
 (h5e : W.nsIn K mainGlobals "WRITTEN_TRUTHS" = some (some (.ref ga0)))
 (h5f : K.lookup ga0 = some ⟨go0, gd0, .dict ge0 gn0, gs0⟩)
 (h5g : (ga0 == sysModules) = false)
 (h5h : go0 = .type "dict")
 (h5i : gd0 = none)
 (h5j : gs0 = #[])
 (h5k : PyProof.Rows.KTD.Rows (fun (b : Bool) (v : Value) => v = .bool b) ge0.toList [("yes", true), ("no", false)])
 (h5l : W.nsIn K mainGlobals "ValueError" = some none)
 (h5m : W.nsIn K mainGlobals "bool" = some none)
 (h5n : W.nsIn K mainGlobals "dict" = some none)
 (h5o : W.nsIn K mainGlobals "enumerate" = some none)
 (h5p : W.nsIn K mainGlobals "int" = some none)
 (h5q : W.nsIn K mainGlobals "isinstance" = some none)
 (h5r : W.nsIn K mainGlobals "len" = some none)
 (h5s : W.nsIn K mainGlobals "list" = some none)
 (h5t : W.nsIn K mainGlobals "range" = some none)
 (h5u : W.nsIn K mainGlobals "str" = some none)
 (h6f : W.clsIn K k_AskError = some kd_AskError)
 (h6g : W.typeIn K (.ref k_AskError) = some (.type "type"))
 (h6h : W.clsIn K k_Names = some kd_Names)
 (h6i : W.typeIn K (.ref k_Names) = some (.type "type"))
 (h6j : W.clsIn K k_NoWay = some kd_NoWay)
 (h6k : W.typeIn K (.ref k_NoWay) = some (.type "type"))
 (h6l : W.clsIn K k_OutOfReach = some kd_OutOfReach)
 (h6m : W.typeIn K (.ref k_OutOfReach) = some (.type "type"))
 (h6n : W.clsIn K k_Pick = some kd_Pick)
 (h6o : W.typeIn K (.ref k_Pick) = some (.type "type"))
 (h6p : W.clsIn K k_Ring = some kd_Ring)
 (h6q : W.typeIn K (.ref k_Ring) = some (.type "type"))
 (h6r : W.clsIn K k_Twice = some kd_Twice)
 (h6s : W.typeIn K (.ref k_Twice) = some (.type "type"))
 (h6t : W.clsIn K k_Unknown = some kd_Unknown)
 (h6u : W.typeIn K (.ref k_Unknown) = some (.type "type"))
 (h6v : W.clsIn K k_Whole = some kd_Whole)
 (h6w : W.typeIn K (.ref k_Whole) = some (.type "type"))
 (h6x : W.clsIn K k_WrongKind = some kd_WrongKind)
 (h6y : W.typeIn K (.ref k_WrongKind) = some (.type "type"))
 (h6z : W.excIn K k_AskError mroVE "ValueError.__new__" = true)
 (h70 : K.lookup k_NoWay = some ⟨xo_NoWay, xd_NoWay, .cls xk_NoWay, xs_NoWay⟩)
 (h71 : xo_NoWay = .type "type")
 (h72 : xk_NoWay.mro = .ref k_NoWay :: .ref k_AskError :: mroVE)
 (h73 : xs_NoWay.size = 6 ∧ xs_NoWay[4]? = some (some (.builtin "ValueError.__new__")))
 (h74 : xk_NoWay.hasDel = false)
 (h75 : kd_AskError.mro = .ref k_AskError :: mroVE)
 (h76 : W.findIn K (.ref k_NoWay) "__init__" = some (some (.ref f3)))
 (h77 : W.isFn K (.ref f3) = true)
 (h78 : W.keepIn K (.ref k_NoWay) = true)
 (h79 : W.findIn K (.ref k_NoWay) "__getattribute__" = some (some (.builtin "BaseException.__getattribute__")))
 (h7a : W.findIn K (.ref k_NoWay) "__getattr__" = some none)
 (h7b : W.findIn K (.ref k_NoWay) "__class__" = some (some (.builtin "object.__class__")))
 (h7c : W.specialIn K (.builtin "object.__class__") "__get__" = some (some (.builtin "getset_descriptor.__get__")))
 (h7d : W.takesIn K (.builtin "object.__class__") = some true)
 (h7e : W.mroIn K k_NoWay (.type "object") = some true)
 (h7f : W.mroIn K k_NoWay (.type "BaseException") = some true)
 (h7g : W.findIn K (.ref k_NoWay) "__setattr__" = some (some (.builtin "object.__setattr__")))
 (h7h : W.hasDictIn K k_NoWay = true)
 (h7i : W.findIn K (.ref k_NoWay) "name" = some none)
 (h7j : K.lookup k_OutOfReach = some ⟨xo_OutOfReach, xd_OutOfReach, .cls xk_OutOfReach, xs_OutOfReach⟩)
 (h7k : xo_OutOfReach = .type "type")
 (h7l : xk_OutOfReach.mro = .ref k_OutOfReach :: .ref k_AskError :: mroVE)
 (h7m : xs_OutOfReach.size = 6 ∧ xs_OutOfReach[4]? = some (some (.builtin "ValueError.__new__")))
 (h7n : xk_OutOfReach.hasDel = false)
 (h7o : kd_AskError.mro = .ref k_AskError :: mroVE)
 (h7p : W.findIn K (.ref k_OutOfReach) "__init__" = some (some (.ref f4)))
 (h7q : W.isFn K (.ref f4) = true)
 (h7r : W.keepIn K (.ref k_OutOfReach) = true)
 (h7s : W.findIn K (.ref k_OutOfReach) "__getattribute__" = some (some (.builtin "BaseException.__getattribute__")))
 (h7t : W.findIn K (.ref k_OutOfReach) "__getattr__" = some none)
 (h7u : W.findIn K (.ref k_OutOfReach) "__class__" = some (some (.builtin "object.__class__")))
 (h7v : W.specialIn K (.builtin "object.__class__") "__get__" = some (some (.builtin "getset_descriptor.__get__")))
 (h7w : W.takesIn K (.builtin "object.__class__") = some true)
 (h7x : W.mroIn K k_OutOfReach (.type "object") = some true)
 (h7y : W.mroIn K k_OutOfReach (.type "BaseException") = some true)
 (h7z : W.findIn K (.ref k_OutOfReach) "__setattr__" = some (some (.builtin "object.__setattr__")))
 (h80 : W.hasDictIn K k_OutOfReach = true)
 (h81 : W.findIn K (.ref k_OutOfReach) "name" = some none)
 (h82 : K.lookup k_Ring = some ⟨xo_Ring, xd_Ring, .cls xk_Ring, xs_Ring⟩)
 (h83 : xo_Ring = .type "type")
 (h84 : xk_Ring.mro = .ref k_Ring :: .ref k_AskError :: mroVE)
 (h85 : xs_Ring.size = 6 ∧ xs_Ring[4]? = some (some (.builtin "ValueError.__new__")))
 (h86 : xk_Ring.hasDel = false)
 (h87 : kd_AskError.mro = .ref k_AskError :: mroVE)
 (h88 : W.findIn K (.ref k_Ring) "__init__" = some (some (.ref f5)))
 (h89 : W.isFn K (.ref f5) = true)
 (h8a : W.keepIn K (.ref k_Ring) = true)
 (h8b : W.findIn K (.ref k_Ring) "__getattribute__" = some (some (.builtin "BaseException.__getattribute__")))
 (h8c : W.findIn K (.ref k_Ring) "__getattr__" = some none)
 (h8d : W.findIn K (.ref k_Ring) "__class__" = some (some (.builtin "object.__class__")))
 (h8e : W.specialIn K (.builtin "object.__class__") "__get__" = some (some (.builtin "getset_descriptor.__get__")))
 (h8f : W.takesIn K (.builtin "object.__class__") = some true)
 (h8g : W.mroIn K k_Ring (.type "object") = some true)
 (h8h : W.mroIn K k_Ring (.type "BaseException") = some true)
 (h8i : W.findIn K (.ref k_Ring) "__setattr__" = some (some (.builtin "object.__setattr__")))
 (h8j : W.hasDictIn K k_Ring = true)
 (h8k : W.findIn K (.ref k_Ring) "ring" = some none)
 (h8l : K.lookup k_Twice = some ⟨xo_Twice, xd_Twice, .cls xk_Twice, xs_Twice⟩)
 (h8m : xo_Twice = .type "type")
 (h8n : xk_Twice.mro = .ref k_Twice :: .ref k_AskError :: mroVE)
 (h8o : xs_Twice.size = 6 ∧ xs_Twice[4]? = some (some (.builtin "ValueError.__new__")))
 (h8p : xk_Twice.hasDel = false)
 (h8q : kd_AskError.mro = .ref k_AskError :: mroVE)
 (h8r : W.findIn K (.ref k_Twice) "__init__" = some (some (.ref f0)))
 (h8s : W.isFn K (.ref f0) = true)
 (h8t : W.keepIn K (.ref k_Twice) = true)
 (h8u : W.findIn K (.ref k_Twice) "__getattribute__" = some (some (.builtin "BaseException.__getattribute__")))
 (h8v : W.findIn K (.ref k_Twice) "__getattr__" = some none)
 (h8w : W.findIn K (.ref k_Twice) "__class__" = some (some (.builtin "object.__class__")))
 (h8x : W.specialIn K (.builtin "object.__class__") "__get__" = some (some (.builtin "getset_descriptor.__get__")))
 (h8y : W.takesIn K (.builtin "object.__class__") = some true)
 (h8z : W.mroIn K k_Twice (.type "object") = some true)
 (h90 : W.mroIn K k_Twice (.type "BaseException") = some true)
 (h91 : W.findIn K (.ref k_Twice) "__setattr__" = some (some (.builtin "object.__setattr__")))
 (h92 : W.hasDictIn K k_Twice = true)
 (h93 : W.findIn K (.ref k_Twice) "name" = some none)
 (h94 : K.lookup k_Unknown = some ⟨xo_Unknown, xd_Unknown, .cls xk_Unknown, xs_Unknown⟩)
 (h95 : xo_Unknown = .type "type")
 (h96 : xk_Unknown.mro = .ref k_Unknown :: .ref k_AskError :: mroVE)
 (h97 : xs_Unknown.size = 6 ∧ xs_Unknown[4]? = some (some (.builtin "ValueError.__new__")))
 (h98 : xk_Unknown.hasDel = false)
 (h99 : kd_AskError.mro = .ref k_AskError :: mroVE)
 (h9a : W.findIn K (.ref k_Unknown) "__init__" = some (some (.ref f1)))
 (h9b : W.isFn K (.ref f1) = true)
 (h9c : W.keepIn K (.ref k_Unknown) = true)
 (h9d : W.findIn K (.ref k_Unknown) "__getattribute__" = some (some (.builtin "BaseException.__getattribute__")))
 (h9e : W.findIn K (.ref k_Unknown) "__getattr__" = some none)
 (h9f : W.findIn K (.ref k_Unknown) "__class__" = some (some (.builtin "object.__class__")))
 (h9g : W.specialIn K (.builtin "object.__class__") "__get__" = some (some (.builtin "getset_descriptor.__get__")))
 (h9h : W.takesIn K (.builtin "object.__class__") = some true)
 (h9i : W.mroIn K k_Unknown (.type "object") = some true)
 (h9j : W.mroIn K k_Unknown (.type "BaseException") = some true)
 (h9k : W.findIn K (.ref k_Unknown) "__setattr__" = some (some (.builtin "object.__setattr__")))
 (h9l : W.hasDictIn K k_Unknown = true)
 (h9m : W.findIn K (.ref k_Unknown) "name" = some none)
 (h9n : K.lookup k_WrongKind = some ⟨xo_WrongKind, xd_WrongKind, .cls xk_WrongKind, xs_WrongKind⟩)
 (h9o : xo_WrongKind = .type "type")
 (h9p : xk_WrongKind.mro = .ref k_WrongKind :: .ref k_AskError :: mroVE)
 (h9q : xs_WrongKind.size = 6 ∧ xs_WrongKind[4]? = some (some (.builtin "ValueError.__new__")))
 (h9r : xk_WrongKind.hasDel = false)
 (h9s : kd_AskError.mro = .ref k_AskError :: mroVE)
 (h9t : W.findIn K (.ref k_WrongKind) "__init__" = some (some (.ref f2)))
 (h9u : W.isFn K (.ref f2) = true)
 (h9v : W.keepIn K (.ref k_WrongKind) = true)
 (h9w : W.findIn K (.ref k_WrongKind) "__getattribute__" = some (some (.builtin "BaseException.__getattribute__")))
 (h9x : W.findIn K (.ref k_WrongKind) "__getattr__" = some none)
 (h9y : W.findIn K (.ref k_WrongKind) "__class__" = some (some (.builtin "object.__class__")))
 (h9z : W.specialIn K (.builtin "object.__class__") "__get__" = some (some (.builtin "getset_descriptor.__get__")))
 (ha0 : W.takesIn K (.builtin "object.__class__") = some true)
 (ha1 : W.mroIn K k_WrongKind (.type "object") = some true)
 (ha2 : W.mroIn K k_WrongKind (.type "BaseException") = some true)
 (ha3 : W.findIn K (.ref k_WrongKind) "__setattr__" = some (some (.builtin "object.__setattr__")))
 (ha4 : W.hasDictIn K k_WrongKind = true)
 (ha5 : W.findIn K (.ref k_WrongKind) "name" = some none)
 (ha6 : W.readsIn K k_AskError (.type "type") = true)
 (ha7 : W.findCls K (.ref k_AskError) (.type "type") "__init__" = some (.val (.builtin "ValueError.__init__")))
 (ha8 : W.specialIn K (.ref k_AskError) "__getattribute__" = some (some (.builtin "type.__getattribute__")))
 (ha9 : W.subIn K (.ref k_AskError) (.type "BaseException") = some true)
 (haa : W.mroIn K k_Twice (.ref k_AskError) = some true)
 (hab : W.subIn K (.ref k_AskError) (.type "BaseException") = some true)
 (hac : W.mroIn K k_Unknown (.ref k_AskError) = some true)
 (had : W.subIn K (.ref k_AskError) (.type "BaseException") = some true)
 (hae : W.mroIn K k_WrongKind (.ref k_AskError) = some true)
 (haf : W.subIn K (.ref k_AskError) (.type "BaseException") = some true)
 (hag : W.mroIn K k_NoWay (.ref k_AskError) = some true)
 (hah : W.subIn K (.ref k_AskError) (.type "BaseException") = some true)
 (hai : W.mroIn K k_Ring (.ref k_AskError) = some true)
 (haj : W.subIn K (.ref k_AskError) (.type "BaseException") = some true)
 (hak : W.mroIn K k_OutOfReach (.ref k_AskError) = some true)
 (hal : W.mroIn K k_Twice (.ref k_Unknown) = some false)
 (ham : (Value.ref k_Twice == Value.ref k_Unknown) = false)
 (han : W.mroIn K k_Twice (.ref k_WrongKind) = some false)
 (hao : (Value.ref k_Twice == Value.ref k_WrongKind) = false)
 (hap : W.mroIn K k_Twice (.ref k_NoWay) = some false)
 (haq : (Value.ref k_Twice == Value.ref k_NoWay) = false)
 (har : W.mroIn K k_Twice (.ref k_Ring) = some false)
 (has : (Value.ref k_Twice == Value.ref k_Ring) = false)
 (hat : W.mroIn K k_Twice (.ref k_OutOfReach) = some false)
 (hau : (Value.ref k_Twice == Value.ref k_OutOfReach) = false)
 (hav : W.mroIn K k_Twice (.ref k_AskError) = some true)
 (haw : (Value.ref k_Twice == Value.ref k_AskError) = false)
 (hax : W.mroIn K k_Unknown (.ref k_Twice) = some false)
 (hay : (Value.ref k_Unknown == Value.ref k_Twice) = false)
 (haz : W.mroIn K k_Unknown (.ref k_WrongKind) = some false)
 (hb0 : (Value.ref k_Unknown == Value.ref k_WrongKind) = false)
 (hb1 : W.mroIn K k_Unknown (.ref k_NoWay) = some false)
 (hb2 : (Value.ref k_Unknown == Value.ref k_NoWay) = false)
 (hb3 : W.mroIn K k_Unknown (.ref k_Ring) = some false)
 (hb4 : (Value.ref k_Unknown == Value.ref k_Ring) = false)
 (hb5 : W.mroIn K k_Unknown (.ref k_OutOfReach) = some false)
 (hb6 : (Value.ref k_Unknown == Value.ref k_OutOfReach) = false)
 (hb7 : W.mroIn K k_Unknown (.ref k_AskError) = some true)
 (hb8 : (Value.ref k_Unknown == Value.ref k_AskError) = false)
 (hb9 : W.mroIn K k_WrongKind (.ref k_Twice) = some false)
 (hba : (Value.ref k_WrongKind == Value.ref k_Twice) = false)
 (hbb : W.mroIn K k_WrongKind (.ref k_Unknown) = some false)
 (hbc : (Value.ref k_WrongKind == Value.ref k_Unknown) = false)
 (hbd : W.mroIn K k_WrongKind (.ref k_NoWay) = some false)
 (hbe : (Value.ref k_WrongKind == Value.ref k_NoWay) = false)
 (hbf : W.mroIn K k_WrongKind (.ref k_Ring) = some false)
 (hbg : (Value.ref k_WrongKind == Value.ref k_Ring) = false)
 (hbh : W.mroIn K k_WrongKind (.ref k_OutOfReach) = some false)
 (hbi : (Value.ref k_WrongKind == Value.ref k_OutOfReach) = false)
 (hbj : W.mroIn K k_WrongKind (.ref k_AskError) = some true)
 (hbk : (Value.ref k_WrongKind == Value.ref k_AskError) = false)
 (hbl : W.mroIn K k_NoWay (.ref k_Twice) = some false)
 (hbm : (Value.ref k_NoWay == Value.ref k_Twice) = false)
 (hbn : W.mroIn K k_NoWay (.ref k_Unknown) = some false)
 (hbo : (Value.ref k_NoWay == Value.ref k_Unknown) = false)
 (hbp : W.mroIn K k_NoWay (.ref k_WrongKind) = some false)
 (hbq : (Value.ref k_NoWay == Value.ref k_WrongKind) = false)
 (hbr : W.mroIn K k_NoWay (.ref k_Ring) = some false)
 (hbs : (Value.ref k_NoWay == Value.ref k_Ring) = false)
 (hbt : W.mroIn K k_NoWay (.ref k_OutOfReach) = some false)
 (hbu : (Value.ref k_NoWay == Value.ref k_OutOfReach) = false)
 (hbv : W.mroIn K k_NoWay (.ref k_AskError) = some true)
 (hbw : (Value.ref k_NoWay == Value.ref k_AskError) = false)
 (hbx : W.mroIn K k_Ring (.ref k_Twice) = some false)
 (hby : (Value.ref k_Ring == Value.ref k_Twice) = false)
 (hbz : W.mroIn K k_Ring (.ref k_Unknown) = some false)
 (hc0 : (Value.ref k_Ring == Value.ref k_Unknown) = false)
 (hc1 : W.mroIn K k_Ring (.ref k_WrongKind) = some false)
 (hc2 : (Value.ref k_Ring == Value.ref k_WrongKind) = false)
 (hc3 : W.mroIn K k_Ring (.ref k_NoWay) = some false)
 (hc4 : (Value.ref k_Ring == Value.ref k_NoWay) = false)
 (hc5 : W.mroIn K k_Ring (.ref k_OutOfReach) = some false)
 (hc6 : (Value.ref k_Ring == Value.ref k_OutOfReach) = false)
 (hc7 : W.mroIn K k_Ring (.ref k_AskError) = some true)
 (hc8 : (Value.ref k_Ring == Value.ref k_AskError) = false)
 (hc9 : W.mroIn K k_OutOfReach (.ref k_Twice) = some false)
 (hca : (Value.ref k_OutOfReach == Value.ref k_Twice) = false)
 (hcb : W.mroIn K k_OutOfReach (.ref k_Unknown) = some false)
 (hcc : (Value.ref k_OutOfReach == Value.ref k_Unknown) = false)
 (hcd : W.mroIn K k_OutOfReach (.ref k_WrongKind) = some false)
 (hce : (Value.ref k_OutOfReach == Value.ref k_WrongKind) = false)
 (hcf : W.mroIn K k_OutOfReach (.ref k_NoWay) = some false)
 (hcg : (Value.ref k_OutOfReach == Value.ref k_NoWay) = false)
 (hch : W.mroIn K k_OutOfReach (.ref k_Ring) = some false)
 (hci : (Value.ref k_OutOfReach == Value.ref k_Ring) = false)
 (hcj : W.mroIn K k_OutOfReach (.ref k_AskError) = some true)
 (hck : (Value.ref k_OutOfReach == Value.ref k_AskError) = false)
 (hcl : W.mroIn K k_YesNo (.ref k_Pick) = some false)
 (hcm : (Value.ref k_YesNo == Value.ref k_Pick) = false)
 (hcn : W.mroIn K k_YesNo (.ref k_Whole) = some false)
 (hco : (Value.ref k_YesNo == Value.ref k_Whole) = false)
 (hcp : W.mroIn K k_YesNo (.ref k_Names) = some false)
 (hcq : (Value.ref k_YesNo == Value.ref k_Names) = false)
 (hcr : W.mroIn K k_Twice (.type "ValueError") = some true)
 (hcs : W.mroIn K k_Unknown (.type "ValueError") = some true)
 (hct : W.mroIn K k_WrongKind (.type "ValueError") = some true)
 (hcu : W.mroIn K k_NoWay (.type "ValueError") = some true)
 (hcv : W.mroIn K k_Ring (.type "ValueError") = some true)
 (hcw : W.mroIn K k_OutOfReach (.type "ValueError") = some true)
 (hcx : W.plainGet K k_YesNo Str.empty = true)
 (hcy : W.hasDictIn K k_YesNo = true)
 (hcz : W.plainOver K k_YesNo = true)
 (hd0 : W.findIn K (.ref k_YesNo) "__setattr__" = some (some (.builtin "object.__setattr__")))
 (hd1 : W.findIn K (.ref k_YesNo) "__class__" = some (some (.builtin "object.__class__")))
 (hd2 : W.specialIn K (.builtin "object.__class__") "__get__" = some (some (.builtin "getset_descriptor.__get__")))
 (hd3 : W.takesIn K (.builtin "object.__class__") = some true)
 (hd4 : W.mroIn K k_YesNo (.type "object") = some true)
 (hd5 : W.makesIn K k_YesNo = true)
 (hd6 : W.findIn K (.ref k_YesNo) "__init__" = some (some (.ref f7)))
 (hd7 : W.isFn K (.ref f7) = true)
 (hd8 : W.keepIn K (.ref k_YesNo) = true)
 (hd9 : W.findIn K (.ref k_YesNo) "fits" = some (some (.ref f8)))
 (hda : W.isFn K (.ref f8) = true)
 (hdb : W.findIn K (.ref k_YesNo) "answer_of" = some (some (.ref f9)))
 (hdc : W.isFn K (.ref f9) = true)
 (hdd : W.findIn K (.ref k_YesNo) "rank" = some (some (.ref f10)))
 (hde : W.isFn K (.ref f10) = true)
 (hdf : W.findIn K (.ref k_YesNo) "low" = some none)
 (hdg : W.findIn K (.ref k_YesNo) "high" = some none)
 (hdh : W.plainGet K k_Ask Str.empty = true)
 (hdi : W.hasDictIn K k_Ask = true)
 (hdj : W.plainOver K k_Ask = true)
 (hdk : W.findIn K (.ref k_Ask) "__setattr__" = some (some (.builtin "object.__setattr__")))
 (hdl : W.findIn K (.ref k_Ask) "__class__" = some (some (.builtin "object.__class__")))
 (hdm : W.specialIn K (.builtin "object.__class__") "__get__" = some (some (.builtin "getset_descriptor.__get__")))
 (hdn : W.takesIn K (.builtin "object.__class__") = some true)
 (hdo : W.mroIn K k_Ask (.type "object") = some true)
 (hdp : W.makesIn K k_Ask = true)
 (hdq : W.findIn K (.ref k_Ask) "__init__" = some (some (.ref f12)))
 (hdr : W.isFn K (.ref f12) = true)
 (hds : W.keepIn K (.ref k_Ask) = true)
 (hdt : W.findIn K (.ref k_Ask) "name" = some none)
 (hdu : W.findIn K (.ref k_Ask) "kind" = some none)
 (hdv : W.findIn K (.ref k_Ask) "when" = some none)
 (hdw : W.plainGet K k_Sheet Str.empty = true)
 (hdx : W.hasDictIn K k_Sheet = true)
 (hdy : W.plainOver K k_Sheet = true)
 (hdz : W.findIn K (.ref k_Sheet) "__setattr__" = some (some (.builtin "object.__setattr__")))
 (he0 : W.makesIn K k_Sheet = true)
 (he1 : W.findIn K (.ref k_Sheet) "__init__" = some (some (.ref f13)))
 (he2 : W.isFn K (.ref f13) = true)
 (he3 : W.keepIn K (.ref k_Sheet) = true)
 (he4 : W.findIn K (.ref k_Sheet) "name" = some none)
 (he5 : W.findIn K (.ref k_Sheet) "each" = some none)
 (he6 : W.findIn K (.ref k_Sheet) "rows" = some none)
 (he7 : W.findIn K (.ref k_Sheet) "ways" = some none)
 (he8 : W.plainGet K k_Paper Str.empty = true)
 (he9 : W.hasDictIn K k_Paper = true)
 (hea : W.plainOver K k_Paper = true)
 (heb : W.findIn K (.ref k_Paper) "__setattr__" = some (some (.builtin "object.__setattr__")))
 (hec : W.makesIn K k_Paper = true)
 (hed : W.findIn K (.ref k_Paper) "__init__" = some (some (.ref f14)))
 (hee : W.isFn K (.ref f14) = true)
 (hef : W.keepIn K (.ref k_Paper) = true)
 (heg : W.findIn K (.ref k_Paper) "name" = some none)
 (heh : W.findIn K (.ref k_Paper) "sheets" = some none)
 (hei : W.findIn K (.ref k_Paper) "totals" = some none)
 (hej : W.plainGet K k_Reach Str.empty = true)
 (hek : W.hasDictIn K k_Reach = true)
 (hel : W.plainOver K k_Reach = true)
 (hem : W.findIn K (.ref k_Reach) "__setattr__" = some (some (.builtin "object.__setattr__")))
 (hen : W.makesIn K k_Reach = true)
 (heo : W.findIn K (.ref k_Reach) "__init__" = some (some (.ref f25)))
 (hep : W.isFn K (.ref f25) = true)
 (heq : W.keepIn K (.ref k_Reach) = true)
 (her : W.findIn K (.ref k_Reach) "look_at_sheet" = some (some (.ref f30)))
 (hes : W.isFn K (.ref f30) = true)
 (het : W.findIn K (.ref k_Reach) "look_at_saying" = some (some (.ref f29)))
 (heu : W.isFn K (.ref f29) = true)
 (hev : W.findIn K (.ref k_Reach) "comes_again" = some (some (.ref f26)))
 (hew : W.isFn K (.ref f26) = true)
 (hex : W.findIn K (.ref k_Reach) "is_within" = some (some (.ref f27)))
 (hey : W.isFn K (.ref f27) = true)
 (hez : W.findIn K (.ref k_Reach) "reaches_question" = some (some (.ref f28)))
 (hf0 : W.isFn K (.ref f28) = true)
 (hf1 : W.findIn K (.ref k_Reach) "paper" = some none)
 (hf2 : W.findIn K (.ref k_Reach) "spots" = some none)
 (hf3 : W.plainGet K k_Is Str.empty = true)
 (hf4 : W.hasDictIn K k_Is = true)
 (hf5 : W.plainOver K k_Is = true)
 (hf6 : W.findIn K (.ref k_Is) "__setattr__" = some (some (.builtin "object.__setattr__")))
 (hf7 : W.makesIn K k_Is = true)
 (hf8 : W.findIn K (.ref k_Is) "__init__" = some (some (.ref f33)))
 (hf9 : W.isFn K (.ref f33) = true)
 (hfa : W.keepIn K (.ref k_Is) = true)
 (hfb : W.findIn K (.ref k_Is) "atoms" = some (some (.ref f34)))
 (hfc : W.isFn K (.ref f34) = true)
 (hfd : W.findIn K (.ref k_Is) "settled" = some (some (.ref f35)))
 (hfe : W.isFn K (.ref f35) = true)
 (hff : W.findIn K (.ref k_Is) "name" = some none)
 (hfg : W.findIn K (.ref k_Is) "word" = some none)
 (hfh : W.findIn K (.ref k_Is) "place" = some none)
 (hfi : W.plainGet K k_Compare Str.empty = true)
 (hfj : W.hasDictIn K k_Compare = true)
 (hfk : W.plainOver K k_Compare = true)
 (hfl : W.findIn K (.ref k_Compare) "__setattr__" = some (some (.builtin "object.__setattr__")))
 (hfm : W.makesIn K k_Compare = true)
 (hfn : W.findIn K (.ref k_Compare) "__init__" = some (some (.ref f36)))
 (hfo : W.isFn K (.ref f36) = true)
 (hfp : W.keepIn K (.ref k_Compare) = true)
 (hfq : W.findIn K (.ref k_Compare) "atoms" = some (some (.ref f37)))
 (hfr : W.isFn K (.ref f37) = true)
 (hfs : W.findIn K (.ref k_Compare) "settled" = some (some (.ref f38)))
 (hft : W.isFn K (.ref f38) = true)
 (hfu : W.findIn K (.ref k_Compare) "name" = some none)
 (hfv : W.findIn K (.ref k_Compare) "how" = some none)
 (hfw : W.findIn K (.ref k_Compare) "number" = some none)
 (hfx : W.readsIn K k_Kind (.type "type") = true)
 (hfy : W.findCls K (.ref k_Kind) (.type "type") "__init__" = some (.val (.ref f6)))
 (hfz : W.specialIn K (.ref k_Kind) "__getattribute__" = some (some (.builtin "type.__getattribute__")))
 (hg0 : W.readsIn K k_Row (.type "type") = true)
 (hg1 : W.findCls K (.ref k_Row) (.type "type") "__init__" = some (.val (.ref f11)))
 (hg2 : W.specialIn K (.ref k_Row) "__getattribute__" = some (some (.builtin "type.__getattribute__"))) :
 ∃ A : Adr, Txt K mg A :=
 ⟨⟨f0,
   W.fnOf "__init__" "Twice.__init__" (defArgs s_c_Twice___init) (defBody s_c_Twice___init) (defScope s_c_Twice___init) .none kV0 dc0 pm0 an0 cd0 ct0,
   f1,
   W.fnOf "__init__" "Unknown.__init__" (defArgs s_c_Unknown___init) (defBody s_c_Unknown___init) (defScope s_c_Unknown___init) .none kV1 dc1 pm1 an1 cd1 ct1,
   f2,
   W.fnOf "__init__" "WrongKind.__init__" (defArgs s_c_WrongKind___init) (defBody s_c_WrongKind___init) (defScope s_c_WrongKind___init) .none kV2 dc2 pm2 an2 cd2 ct2,
   f3,
   W.fnOf "__init__" "NoWay.__init__" (defArgs s_c_NoWay___init) (defBody s_c_NoWay___init) (defScope s_c_NoWay___init) .none kV3 dc3 pm3 an3 cd3 ct3,
   f4,
   W.fnOf "__init__" "OutOfReach.__init__" (defArgs s_c_OutOfReach___init) (defBody s_c_OutOfReach___init) (defScope s_c_OutOfReach___init) .none kV4 dc4 pm4 an4 cd4 ct4,
   f5,
   W.fnOf "__init__" "Ring.__init__" (defArgs s_c_Ring___init) (defBody s_c_Ring___init) (defScope s_c_Ring___init) .none kV5 dc5 pm5 an5 cd5 ct5,
   f6,
   W.fnOf "__init__" "Kind.__init__" (defArgs s_c_Kind___init) (defBody s_c_Kind___init) (defScope s_c_Kind___init) .none kV6 dc6 pm6 an6 cd6 ct6,
   f7,
   W.fnOf "__init__" "YesNo.__init__" (defArgs s_c_YesNo___init) (defBody s_c_YesNo___init) (defScope s_c_YesNo___init) .none kV7 dc7 pm7 an7 cd7 ct7,
   f8,
   W.fnOf "fits" "YesNo.fits" (defArgs s_c_YesNo_fits) (defBody s_c_YesNo_fits) (defScope s_c_YesNo_fits) .none kV8 dc8 pm8 an8 cd8 ct8,
   f9,
   W.fnOf "answer_of" "YesNo.answer_of" (defArgs s_c_YesNo_answer_of) (defBody s_c_YesNo_answer_of) (defScope s_c_YesNo_answer_of) .none kV9 dc9 pm9 an9 cd9 ct9,
   f10,
   W.fnOf "rank" "YesNo.rank" (defArgs s_c_YesNo_rank) (defBody s_c_YesNo_rank) (defScope s_c_YesNo_rank) .none kV10 dc10 pm10 an10 cd10 ct10,
   f11,
   W.fnOf "__init__" "Row.__init__" (defArgs s_c_Row___init) (defBody s_c_Row___init) (defScope s_c_Row___init) .none kV11 dc11 pm11 an11 cd11 ct11,
   f12,
   W.fnOf "__init__" "Ask.__init__" (defArgs s_c_Ask___init) (defBody s_c_Ask___init) (defScope s_c_Ask___init) (.ref dT12) kV12 dc12 pm12 an12 cd12 ct12,
   [.none],
   f13,
   W.fnOf "__init__" "Sheet.__init__" (defArgs s_c_Sheet___init) (defBody s_c_Sheet___init) (defScope s_c_Sheet___init) .none kV13 dc13 pm13 an13 cd13 ct13,
   f14,
   W.fnOf "__init__" "Paper.__init__" (defArgs s_c_Paper___init) (defBody s_c_Paper___init) (defScope s_c_Paper___init) .none kV14 dc14 pm14 an14 cd14 ct14,
   f15,
   W.fnOf "kinds_of" "kinds_of" (defArgs s_kinds_of) (defBody s_kinds_of) (defScope s_kinds_of) .none kV15 dc15 pm15 an15 cd15 ct15,
   f16,
   W.fnOf "names_given" "names_given" (defArgs s_names_given) (defBody s_names_given) (defScope s_names_given) .none kV16 dc16 pm16 an16 cd16 ct16,
   f17,
   W.fnOf "look_for_twice" "look_for_twice" (defArgs s_look_for_twice) (defBody s_look_for_twice) (defScope s_look_for_twice) .none kV17 dc17 pm17 an17 cd17 ct17,
   f18,
   W.fnOf "saying_of" "saying_of" (defArgs s_saying_of) (defBody s_saying_of) (defScope s_saying_of) .none kV18 dc18 pm18 an18 cd18 ct18,
   f19,
   W.fnOf "atoms_of" "atoms_of" (defArgs s_atoms_of) (defBody s_atoms_of) (defScope s_atoms_of) .none kV19 dc19 pm19 an19 cd19 ct19,
   f20,
   W.fnOf "look_at_atoms" "look_at_atoms" (defArgs s_look_at_atoms) (defBody s_look_at_atoms) (defScope s_look_at_atoms) .none kV20 dc20 pm20 an20 cd20 ct20,
   f21,
   W.fnOf "look_at_parts" "look_at_parts" (defArgs s_look_at_parts) (defBody s_look_at_parts) (defScope s_look_at_parts) .none kV21 dc21 pm21 an21 cd21 ct21,
   f22,
   W.fnOf "look_at_names" "look_at_names" (defArgs s_look_at_names) (defBody s_look_at_names) (defScope s_look_at_names) .none kV22 dc22 pm22 an22 cd22 ct22,
   f23,
   W.fnOf "sums_in" "sums_in" (defArgs s_sums_in) (defBody s_sums_in) (defScope s_sums_in) .none kV23 dc23 pm23 an23 cd23 ct23,
   f24,
   W.fnOf "look_for_ring" "look_for_ring" (defArgs s_look_for_ring) (defBody s_look_for_ring) (defScope s_look_for_ring) .none kV24 dc24 pm24 an24 cd24 ct24,
   f25,
   W.fnOf "__init__" "Reach.__init__" (defArgs s_c_Reach___init) (defBody s_c_Reach___init) (defScope s_c_Reach___init) .none kV25 dc25 pm25 an25 cd25 ct25,
   f26,
   W.fnOf "comes_again" "Reach.comes_again" (defArgs s_c_Reach_comes_again) (defBody s_c_Reach_comes_again) (defScope s_c_Reach_comes_again) .none kV26 dc26 pm26 an26 cd26 ct26,
   f27,
   W.fnOf "is_within" "Reach.is_within" (defArgs s_c_Reach_is_within) (defBody s_c_Reach_is_within) (defScope s_c_Reach_is_within) .none kV27 dc27 pm27 an27 cd27 ct27,
   f28,
   W.fnOf "reaches_question" "Reach.reaches_question" (defArgs s_c_Reach_reaches_question) (defBody s_c_Reach_reaches_question) (defScope s_c_Reach_reaches_question) .none kV28 dc28 pm28 an28 cd28 ct28,
   f29,
   W.fnOf "look_at_saying" "Reach.look_at_saying" (defArgs s_c_Reach_look_at_saying) (defBody s_c_Reach_look_at_saying) (defScope s_c_Reach_look_at_saying) .none kV29 dc29 pm29 an29 cd29 ct29,
   f30,
   W.fnOf "look_at_sheet" "Reach.look_at_sheet" (defArgs s_c_Reach_look_at_sheet) (defBody s_c_Reach_look_at_sheet) (defScope s_c_Reach_look_at_sheet) .none kV30 dc30 pm30 an30 cd30 ct30,
   f31,
   W.fnOf "look_for_reach" "look_for_reach" (defArgs s_look_for_reach) (defBody s_look_for_reach) (defScope s_look_for_reach) .none kV31 dc31 pm31 an31 cd31 ct31,
   f32,
   W.fnOf "look_at" "look_at" (defArgs s_look_at) (defBody s_look_at) (defScope s_look_at) .none kV32 dc32 pm32 an32 cd32 ct32,
   f33,
   W.fnOf "__init__" "Is.__init__" (defArgs s_c_Is___init) (defBody s_c_Is___init) (defScope s_c_Is___init) (.ref dT33) kV33 dc33 pm33 an33 cd33 ct33,
   [.none],
   f34,
   W.fnOf "atoms" "Is.atoms" (defArgs s_c_Is_atoms) (defBody s_c_Is_atoms) (defScope s_c_Is_atoms) .none kV34 dc34 pm34 an34 cd34 ct34,
   f35,
   W.fnOf "settled" "Is.settled" (defArgs s_c_Is_settled) (defBody s_c_Is_settled) (defScope s_c_Is_settled) .none kV35 dc35 pm35 an35 cd35 ct35,
   f36,
   W.fnOf "__init__" "Compare.__init__" (defArgs s_c_Compare___init) (defBody s_c_Compare___init) (defScope s_c_Compare___init) .none kV36 dc36 pm36 an36 cd36 ct36,
   f37,
   W.fnOf "atoms" "Compare.atoms" (defArgs s_c_Compare_atoms) (defBody s_c_Compare_atoms) (defScope s_c_Compare_atoms) .none kV37 dc37 pm37 an37 cd37 ct37,
   f38,
   W.fnOf "settled" "Compare.settled" (defArgs s_c_Compare_settled) (defBody s_c_Compare_settled) (defScope s_c_Compare_settled) .none kV38 dc38 pm38 an38 cd38 ct38,
   f39,
   W.fnOf "_law_cell" "_law_cell" (defArgs s_law_cell) (defBody s_law_cell) (defScope s_law_cell) .none kV39 dc39 pm39 an39 cd39 ct39,
   f40,
   W.fnOf "_law_name" "_law_name" (defArgs s_law_name) (defBody s_law_name) (defScope s_law_name) .none kV40 dc40 pm40 an40 cd40 ct40,
   f41,
   W.fnOf "_law_alone" "_law_alone" (defArgs s_law_alone) (defBody s_law_alone) (defScope s_law_alone) .none kV41 dc41 pm41 an41 cd41 ct41,
   f42,
   W.fnOf "_law_fault" "_law_fault" (defArgs s_law_fault) (defBody s_law_fault) (defScope s_law_fault) .none kV42 dc42 pm42 an42 cd42 ct42,
   f43,
   W.fnOf "_law_row" "_law_row" (defArgs s_law_row) (defBody s_law_row) (defScope s_law_row) .none kV43 dc43 pm43 an43 cd43 ct43,
   f44,
   W.fnOf "_law_way" "_law_way" (defArgs s_law_way) (defBody s_law_way) (defScope s_law_way) .none kV44 dc44 pm44 an44 cd44 ct44,
   f45,
   W.fnOf "_law_sums" "_law_sums" (defArgs s_law_sums) (defBody s_law_sums) (defScope s_law_sums) .none kV45 dc45 pm45 an45 cd45 ct45,
   f46,
   W.fnOf "_law_paper" "_law_paper" (defArgs s_law_paper) (defBody s_law_paper) (defScope s_law_paper) .none kV46 dc46 pm46 an46 cd46 ct46,
   f47,
   W.fnOf "law" "law" (defArgs s_law) (defBody s_law) (defScope s_law) .none kV47 dc47 pm47 an47 cd47 ct47,
   ga0,
   k_Ask,
   k_AskError,
   k_Compare,
   k_Is,
   k_Kind,
   k_Names,
   k_NoWay,
   k_OutOfReach,
   k_Paper,
   k_Pick,
   k_Reach,
   k_Ring,
   k_Row,
   k_Saying,
   k_Sheet,
   k_Twice,
   k_Unknown,
   k_Whole,
   k_WrongKind,
   k_YesNo⟩, ⟨fun_mk (st := s_c_Twice___init) h01 h02 h03,
   (fun_mk (st := s_c_Twice___init) h01 h02 h03).binds (ps := ["self", "name"]) (fun _ _ _ _ _ _ us hl => match us, hl with | [_, _], _ => rfl),
   fun_mk (st := s_c_Unknown___init) h05 h06 h07,
   (fun_mk (st := s_c_Unknown___init) h05 h06 h07).binds (ps := ["self", "name"]) (fun _ _ _ _ _ _ us hl => match us, hl with | [_, _], _ => rfl),
   fun_mk (st := s_c_WrongKind___init) h09 h0a h0b,
   (fun_mk (st := s_c_WrongKind___init) h09 h0a h0b).binds (ps := ["self", "name"]) (fun _ _ _ _ _ _ us hl => match us, hl with | [_, _], _ => rfl),
   fun_mk (st := s_c_NoWay___init) h0d h0e h0f,
   (fun_mk (st := s_c_NoWay___init) h0d h0e h0f).binds (ps := ["self", "name"]) (fun _ _ _ _ _ _ us hl => match us, hl with | [_, _], _ => rfl),
   fun_mk (st := s_c_OutOfReach___init) h0h h0i h0j,
   (fun_mk (st := s_c_OutOfReach___init) h0h h0i h0j).binds (ps := ["self", "name"]) (fun _ _ _ _ _ _ us hl => match us, hl with | [_, _], _ => rfl),
   fun_mk (st := s_c_Ring___init) h0l h0m h0n,
   (fun_mk (st := s_c_Ring___init) h0l h0m h0n).binds (ps := ["self", "ring"]) (fun _ _ _ _ _ _ us hl => match us, hl with | [_, _], _ => rfl),
   fun_mk (st := s_c_Kind___init) h0p h0q h0r,
   (fun_mk (st := s_c_Kind___init) h0p h0q h0r).binds (ps := ["self", "low", "high"]) (fun _ _ _ _ _ _ us hl => match us, hl with | [_, _, _], _ => rfl),
   fun_mk (st := s_c_YesNo___init) h0t h0u h0v,
   (fun_mk (st := s_c_YesNo___init) h0t h0u h0v).binds (ps := ["self"]) (fun _ _ _ _ _ _ us hl => match us, hl with | [_], _ => rfl),
   fun_mk (st := s_c_YesNo_fits) h0x h0y h0z,
   (fun_mk (st := s_c_YesNo_fits) h0x h0y h0z).binds (ps := ["self", "thing"]) (fun _ _ _ _ _ _ us hl => match us, hl with | [_, _], _ => rfl),
   fun_mk (st := s_c_YesNo_answer_of) h11 h12 h13,
   (fun_mk (st := s_c_YesNo_answer_of) h11 h12 h13).binds (ps := ["self", "text"]) (fun _ _ _ _ _ _ us hl => match us, hl with | [_, _], _ => rfl),
   fun_mk (st := s_c_YesNo_rank) h15 h16 h17,
   (fun_mk (st := s_c_YesNo_rank) h15 h16 h17).binds (ps := ["self", "answer"]) (fun _ _ _ _ _ _ us hl => match us, hl with | [_, _], _ => rfl),
   fun_mk (st := s_c_Row___init) h19 h1a h1b,
   (fun_mk (st := s_c_Row___init) h19 h1a h1b).binds (ps := ["self", "name"]) (fun _ _ _ _ _ _ us hl => match us, hl with | [_, _], _ => rfl),
   (funD_mk (st := s_c_Ask___init) h1d h1e h1f h1g),
   (funD_mk (st := s_c_Ask___init) h1d h1e h1f h1g).binds (es := []) (fun T _ _ _ _ _ _ us M A E Q s to n ht hc hd hl hq => match us, hl with | [_, _, _, _], _ => BindsTo.of_defaults rfl ht hd rfl rfl M A E Q hq),
   (funD_mk (st := s_c_Ask___init) h1d h1e h1f h1g).binds (fun T _ _ _ _ _ _ us M A E Q s to n ht hc hd hl hq => match us, app_len (m := 3) hl rfl with | [_, _, _], _ => BindsTo.of_defaults rfl ht hd rfl rfl M A E Q hq),
   .cons rfl (.nil),
   fun_mk (st := s_c_Sheet___init) h1i h1j h1k,
   (fun_mk (st := s_c_Sheet___init) h1i h1j h1k).binds (ps := ["self", "name", "each", "rows", "ways"]) (fun _ _ _ _ _ _ us hl => match us, hl with | [_, _, _, _, _], _ => rfl),
   fun_mk (st := s_c_Paper___init) h1m h1n h1o,
   (fun_mk (st := s_c_Paper___init) h1m h1n h1o).binds (ps := ["self", "name", "sheets", "totals"]) (fun _ _ _ _ _ _ us hl => match us, hl with | [_, _, _, _], _ => rfl),
   fun_mk (st := s_kinds_of) h1q h1r h1s,
   (fun_mk (st := s_kinds_of) h1q h1r h1s).binds (ps := ["paper"]) (fun _ _ _ _ _ _ us hl => match us, hl with | [_], _ => rfl),
   h1s,
   W.mg_of X G h1p,
   fun_mk (st := s_names_given) h1u h1v h1w,
   (fun_mk (st := s_names_given) h1u h1v h1w).binds (ps := ["paper"]) (fun _ _ _ _ _ _ us hl => match us, hl with | [_], _ => rfl),
   h1w,
   W.mg_of X G h1t,
   fun_mk (st := s_look_for_twice) h1y h1z h20,
   (fun_mk (st := s_look_for_twice) h1y h1z h20).binds (ps := ["paper"]) (fun _ _ _ _ _ _ us hl => match us, hl with | [_], _ => rfl),
   h20,
   W.mg_of X G h1x,
   fun_mk (st := s_saying_of) h22 h23 h24,
   (fun_mk (st := s_saying_of) h22 h23 h24).binds (ps := ["row"]) (fun _ _ _ _ _ _ us hl => match us, hl with | [_], _ => rfl),
   h24,
   W.mg_of X G h21,
   fun_mk (st := s_atoms_of) h26 h27 h28,
   (fun_mk (st := s_atoms_of) h26 h27 h28).binds (ps := ["saying"]) (fun _ _ _ _ _ _ us hl => match us, hl with | [_], _ => rfl),
   h28,
   W.mg_of X G h25,
   fun_mk (st := s_look_at_atoms) h2a h2b h2c,
   (fun_mk (st := s_look_at_atoms) h2a h2b h2c).binds (ps := ["saying", "kinds", "totals"]) (fun _ _ _ _ _ _ us hl => match us, hl with | [_, _, _], _ => rfl),
   h2c,
   W.mg_of X G h29,
   fun_mk (st := s_look_at_parts) h2e h2f h2g,
   (fun_mk (st := s_look_at_parts) h2e h2f h2g).binds (ps := ["parts", "kinds", "totals"]) (fun _ _ _ _ _ _ us hl => match us, hl with | [_, _, _], _ => rfl),
   h2g,
   W.mg_of X G h2d,
   fun_mk (st := s_look_at_names) h2i h2j h2k,
   (fun_mk (st := s_look_at_names) h2i h2j h2k).binds (ps := ["paper"]) (fun _ _ _ _ _ _ us hl => match us, hl with | [_], _ => rfl),
   h2k,
   W.mg_of X G h2h,
   fun_mk (st := s_sums_in) h2m h2n h2o,
   (fun_mk (st := s_sums_in) h2m h2n h2o).binds (ps := ["parts", "totals"]) (fun _ _ _ _ _ _ us hl => match us, hl with | [_, _], _ => rfl),
   h2o,
   W.mg_of X G h2l,
   fun_mk (st := s_look_for_ring) h2q h2r h2s,
   (fun_mk (st := s_look_for_ring) h2q h2r h2s).binds (ps := ["paper"]) (fun _ _ _ _ _ _ us hl => match us, hl with | [_], _ => rfl),
   h2s,
   W.mg_of X G h2p,
   fun_mk (st := s_c_Reach___init) h2u h2v h2w,
   (fun_mk (st := s_c_Reach___init) h2u h2v h2w).binds (ps := ["self", "paper"]) (fun _ _ _ _ _ _ us hl => match us, hl with | [_, _], _ => rfl),
   fun_mk (st := s_c_Reach_comes_again) h2y h2z h30,
   (fun_mk (st := s_c_Reach_comes_again) h2y h2z h30).binds (ps := ["self", "question"]) (fun _ _ _ _ _ _ us hl => match us, hl with | [_, _], _ => rfl),
   fun_mk (st := s_c_Reach_is_within) h32 h33 h34,
   (fun_mk (st := s_c_Reach_is_within) h32 h33 h34).binds (ps := ["self", "question", "here"]) (fun _ _ _ _ _ _ us hl => match us, hl with | [_, _, _], _ => rfl),
   fun_mk (st := s_c_Reach_reaches_question) h36 h37 h38,
   (fun_mk (st := s_c_Reach_reaches_question) h36 h37 h38).binds (ps := ["self", "question", "here"]) (fun _ _ _ _ _ _ us hl => match us, hl with | [_, _, _], _ => rfl),
   fun_mk (st := s_c_Reach_look_at_saying) h3a h3b h3c,
   (fun_mk (st := s_c_Reach_look_at_saying) h3a h3b h3c).binds (ps := ["self", "saying", "here"]) (fun _ _ _ _ _ _ us hl => match us, hl with | [_, _, _], _ => rfl),
   fun_mk (st := s_c_Reach_look_at_sheet) h3e h3f h3g,
   (fun_mk (st := s_c_Reach_look_at_sheet) h3e h3f h3g).binds (ps := ["self", "place"]) (fun _ _ _ _ _ _ us hl => match us, hl with | [_, _], _ => rfl),
   fun_mk (st := s_look_for_reach) h3i h3j h3k,
   (fun_mk (st := s_look_for_reach) h3i h3j h3k).binds (ps := ["paper"]) (fun _ _ _ _ _ _ us hl => match us, hl with | [_], _ => rfl),
   h3k,
   W.mg_of X G h3h,
   fun_mk (st := s_look_at) h3m h3n h3o,
   (fun_mk (st := s_look_at) h3m h3n h3o).binds (ps := ["paper"]) (fun _ _ _ _ _ _ us hl => match us, hl with | [_], _ => rfl),
   h3o,
   W.mg_of X G h3l,
   (funD_mk (st := s_c_Is___init) h3q h3r h3s h3t),
   (funD_mk (st := s_c_Is___init) h3q h3r h3s h3t).binds (es := []) (fun T _ _ _ _ _ _ us M A E Q s to n ht hc hd hl hq => match us, hl with | [_, _, _, _], _ => BindsTo.of_defaults rfl ht hd rfl rfl M A E Q hq),
   (funD_mk (st := s_c_Is___init) h3q h3r h3s h3t).binds (fun T _ _ _ _ _ _ us M A E Q s to n ht hc hd hl hq => match us, app_len (m := 3) hl rfl with | [_, _, _], _ => BindsTo.of_defaults rfl ht hd rfl rfl M A E Q hq),
   .cons rfl (.nil),
   fun_mk (st := s_c_Is_atoms) h3v h3w h3x,
   (fun_mk (st := s_c_Is_atoms) h3v h3w h3x).binds (ps := ["self"]) (fun _ _ _ _ _ _ us hl => match us, hl with | [_], _ => rfl),
   fun_mk (st := s_c_Is_settled) h3z h40 h41,
   (fun_mk (st := s_c_Is_settled) h3z h40 h41).binds (ps := ["self", "kinds"]) (fun _ _ _ _ _ _ us hl => match us, hl with | [_, _], _ => rfl),
   fun_mk (st := s_c_Compare___init) h43 h44 h45,
   (fun_mk (st := s_c_Compare___init) h43 h44 h45).binds (ps := ["self", "name", "how", "number"]) (fun _ _ _ _ _ _ us hl => match us, hl with | [_, _, _, _], _ => rfl),
   fun_mk (st := s_c_Compare_atoms) h47 h48 h49,
   (fun_mk (st := s_c_Compare_atoms) h47 h48 h49).binds (ps := ["self"]) (fun _ _ _ _ _ _ us hl => match us, hl with | [_], _ => rfl),
   fun_mk (st := s_c_Compare_settled) h4b h4c h4d,
   (fun_mk (st := s_c_Compare_settled) h4b h4c h4d).binds (ps := ["self", "kinds"]) (fun _ _ _ _ _ _ us hl => match us, hl with | [_, _], _ => rfl),
   fun_mk (st := s_law_cell) h4f h4g h4h,
   (fun_mk (st := s_law_cell) h4f h4g h4h).binds (ps := ["_law_script", "_law_k"]) (fun _ _ _ _ _ _ us hl => match us, hl with | [_, _], _ => rfl),
   h4h,
   W.mg_of X G h4e,
   fun_mk (st := s_law_name) h4j h4k h4l,
   (fun_mk (st := s_law_name) h4j h4k h4l).binds (ps := ["_law_script", "_law_k"]) (fun _ _ _ _ _ _ us hl => match us, hl with | [_, _], _ => rfl),
   h4l,
   W.mg_of X G h4i,
   fun_mk (st := s_law_alone) h4n h4o h4p,
   (fun_mk (st := s_law_alone) h4n h4o h4p).binds (ps := ["_law_e"]) (fun _ _ _ _ _ _ us hl => match us, hl with | [_], _ => rfl),
   h4p,
   W.mg_of X G h4m,
   fun_mk (st := s_law_fault) h4r h4s h4t,
   (fun_mk (st := s_law_fault) h4r h4s h4t).binds (ps := ["_law_paper_here"]) (fun _ _ _ _ _ _ us hl => match us, hl with | [_], _ => rfl),
   h4t,
   W.mg_of X G h4q,
   fun_mk (st := s_law_row) h4v h4w h4x,
   (fun_mk (st := s_law_row) h4v h4w h4x).binds (ps := ["_law_script", "_law_s", "_law_cell_here"]) (fun _ _ _ _ _ _ us hl => match us, hl with | [_, _, _], _ => rfl),
   h4x,
   W.mg_of X G h4u,
   fun_mk (st := s_law_way) h4z h50 h51,
   (fun_mk (st := s_law_way) h4z h50 h51).binds (ps := ["_law_script", "_law_s", "_law_cell_here"]) (fun _ _ _ _ _ _ us hl => match us, hl with | [_, _, _], _ => rfl),
   h51,
   W.mg_of X G h4y,
   fun_mk (st := s_law_sums) h53 h54 h55,
   (fun_mk (st := s_law_sums) h53 h54 h55).binds (ps := ["_law_script", "_law_cell_here"]) (fun _ _ _ _ _ _ us hl => match us, hl with | [_, _], _ => rfl),
   h55,
   W.mg_of X G h52,
   fun_mk (st := s_law_paper) h57 h58 h59,
   (fun_mk (st := s_law_paper) h57 h58 h59).binds (ps := ["_law_script", "_law_cells"]) (fun _ _ _ _ _ _ us hl => match us, hl with | [_, _], _ => rfl),
   h59,
   W.mg_of X G h56,
   fun_mk (st := s_law) h5b h5c h5d,
   W.mg_of X G h5a,
   W.mg_of X G h5e,
   tabK_mk h5f h5g h5h h5i h5j h5k,
   W.mg_none_of X G h5l,
   W.mg_none_of X G h5m,
   W.mg_none_of X G h5n,
   W.mg_none_of X G h5o,
   W.mg_none_of X G h5p,
   W.mg_none_of X G h5q,
   W.mg_none_of X G h5r,
   W.mg_none_of X G h5s,
   W.mg_none_of X G h5t,
   W.mg_none_of X G h5u,
   L2.kit_ty (by symm),
   W.mg_of X G h5v,
   ⟨_, W.mg_of X G h5v, rfl⟩,
   W.mg_of X G h5w,
   ⟨_, W.mg_of X G h5w, rfl⟩,
   W.mg_of X G h5x,
   W.mg_of X G h5y,
   W.mg_of X G h5z,
   ⟨_, W.mg_of X G h60, rfl⟩,
   W.mg_of X G h61,
   ⟨_, W.mg_of X G h61, rfl⟩,
   W.mg_of X G h62,
   ⟨_, W.mg_of X G h62, rfl⟩,
   W.mg_of X G h63,
   ⟨_, W.mg_of X G h64, rfl⟩,
   W.mg_of X G h65,
   W.mg_of X G h66,
   ⟨_, W.mg_of X G h66, rfl⟩,
   W.mg_of X G h67,
   W.mg_of X G h69,
   W.mg_of X G h6a,
   ⟨_, W.mg_of X G h6a, rfl⟩,
   W.mg_of X G h6b,
   ⟨_, W.mg_of X G h6b, rfl⟩,
   ⟨_, W.mg_of X G h6c, rfl⟩,
   W.mg_of X G h6d,
   ⟨_, W.mg_of X G h6d, rfl⟩,
   W.mg_of X G h6e,
   ⟨_, W.mg_of X G h6e, rfl⟩,
   ⟨excInI_mk h70 h71 h72 h73 h74 h6z h6f h75, h76, h77, h78⟩,
   excCls_mk h79 h7a h6j h7b h7c h7d h7e h7f,
   ⟨h7g, h7h, h7i, excMro_mk h70 h72, h7e⟩,
   ⟨h79, h7a, h7h, h7i, h7f⟩,
   ⟨excInI_mk h7j h7k h7l h7m h7n h6z h6f h7o, h7p, h7q, h7r⟩,
   excCls_mk h7s h7t h6l h7u h7v h7w h7x h7y,
   ⟨h7z, h80, h81, excMro_mk h7j h7l, h7x⟩,
   ⟨h7s, h7t, h80, h81, h7y⟩,
   ⟨excInI_mk h82 h83 h84 h85 h86 h6z h6f h87, h88, h89, h8a⟩,
   excCls_mk h8b h8c h6p h8d h8e h8f h8g h8h,
   ⟨h8i, h8j, h8k, excMro_mk h82 h84, h8g⟩,
   ⟨excInI_mk h8l h8m h8n h8o h8p h6z h6f h8q, h8r, h8s, h8t⟩,
   excCls_mk h8u h8v h6r h8w h8x h8y h8z h90,
   ⟨h91, h92, h93, excMro_mk h8l h8n, h8z⟩,
   ⟨h8u, h8v, h92, h93, h90⟩,
   ⟨excInI_mk h94 h95 h96 h97 h98 h6z h6f h99, h9a, h9b, h9c⟩,
   excCls_mk h9d h9e h6t h9f h9g h9h h9i h9j,
   ⟨h9k, h9l, h9m, excMro_mk h94 h96, h9i⟩,
   ⟨h9d, h9e, h9l, h9m, h9j⟩,
   ⟨excInI_mk h9n h9o h9p h9q h9r h6z h6f h9s, h9t, h9u, h9v⟩,
   excCls_mk h9w h9x h6x h9y h9z ha0 ha1 ha2,
   ⟨ha3, ha4, ha5, excMro_mk h9n h9p, ha1⟩,
   ⟨h9w, h9x, ha4, ha5, ha2⟩,
   ⟨ha6, ha7, ha8⟩,
   exm_ref ha9 h6f h6g haa,
   exm_ref hab h6f h6g hac,
   exm_ref had h6f h6g hae,
   exm_ref haf h6f h6g hag,
   exm_ref hah h6f h6g hai,
   exm_ref haj h6f h6g hak,
   kit_self,
   zR h6t h6u hal ham,
   zR h6x h6y han hao,
   zR h6j h6k hap haq,
   zR h6p h6q har has,
   zR h6l h6m hat hau,
   zR h6f h6g hav haw,
   zR h6r h6s hax hay,
   kit_self,
   zR h6x h6y haz hb0,
   zR h6j h6k hb1 hb2,
   zR h6p h6q hb3 hb4,
   zR h6l h6m hb5 hb6,
   zR h6f h6g hb7 hb8,
   zR h6r h6s hb9 hba,
   zR h6t h6u hbb hbc,
   kit_self,
   zR h6j h6k hbd hbe,
   zR h6p h6q hbf hbg,
   zR h6l h6m hbh hbi,
   zR h6f h6g hbj hbk,
   zR h6r h6s hbl hbm,
   zR h6t h6u hbn hbo,
   zR h6x h6y hbp hbq,
   kit_self,
   zR h6p h6q hbr hbs,
   zR h6l h6m hbt hbu,
   zR h6f h6g hbv hbw,
   zR h6r h6s hbx hby,
   zR h6t h6u hbz hc0,
   zR h6x h6y hc1 hc2,
   zR h6j h6k hc3 hc4,
   kit_self,
   zR h6l h6m hc5 hc6,
   zR h6f h6g hc7 hc8,
   zR h6r h6s hc9 hca,
   zR h6t h6u hcb hcc,
   zR h6x h6y hcd hce,
   zR h6j h6k hcf hcg,
   zR h6p h6q hch hci,
   kit_self,
   zR h6f h6g hcj hck,
   kit_self,
   zR h6n h6o hcl hcm,
   kit_self,
   zR h6v h6w hcn hco,
   zR h6h h6i hcp hcq,
   kit_rty (by symm) hcr,
   kit_rty (by symm) hcs,
   kit_rty (by symm) hct,
   kit_rty (by symm) hcu,
   kit_rty (by symm) hcv,
   kit_rty (by symm) hcw,
   ⟨hcx, hcy, hcz, hd0⟩,
   fun _ _ _ _ e => .ins e ⟨hcx, hcy, hcz, hd0⟩ hd1 hd2 hd3 hd4,
   ⟨hd5, hd6, hd7, hd8⟩,
   ⟨hd9, hda, h0z⟩,
   ⟨hdb, hdc, h13⟩,
   ⟨hdd, hde, h17⟩,
   hdf,
   hdg,
   ⟨hdh, hdi, hdj, hdk⟩,
   fun _ _ _ _ e => .ins e ⟨hdh, hdi, hdj, hdk⟩ hdl hdm hdn hdo,
   ⟨hdp, hdq, hdr, hds⟩,
   hdt,
   hdu,
   hdv,
   ⟨hdw, hdx, hdy, hdz⟩,
   ⟨he0, he1, he2, he3⟩,
   he4,
   he5,
   he6,
   he7,
   ⟨he8, he9, hea, heb⟩,
   ⟨hec, hed, hee, hef⟩,
   heg,
   heh,
   hei,
   ⟨hej, hek, hel, hem⟩,
   ⟨hen, heo, hep, heq⟩,
   ⟨her, hes, h3g⟩,
   ⟨het, heu, h3c⟩,
   ⟨hev, hew, h30⟩,
   ⟨hex, hey, h34⟩,
   ⟨hez, hf0, h38⟩,
   hf1,
   hf2,
   ⟨hf3, hf4, hf5, hf6⟩,
   ⟨hf7, hf8, hf9, hfa⟩,
   ⟨hfb, hfc, h3x⟩,
   ⟨hfd, hfe, h41⟩,
   hff,
   hfg,
   hfh,
   ⟨hfi, hfj, hfk, hfl⟩,
   ⟨hfm, hfn, hfo, hfp⟩,
   ⟨hfq, hfr, h49⟩,
   ⟨hfs, hft, h4d⟩,
   hfu,
   hfv,
   hfw,
   ⟨hfx, hfy, hfz, h0r⟩,
   ⟨hg0, hg1, hg2, h1b⟩⟩⟩
theorem walk {l : W.OpenLaw} {q : Program} {loose : List Str} {XP : (Str → Option Value) → Heap → Prop} {YP : World → Heap → Prop} {d : DefRec} {K : Params → W.Frag} (hn : l.most = some 63) (hdf : d.params.defaults = []) (hnm : d.name = "law")
   (hY : ∀ (w : World) (h : Heap), YP w h → (K w.params).In h)
   (F : ∀ (w : World) (mg : Str → Option Value) (h : Heap), (K w.params).In h → h.Ns mainGlobals mg → ∃ A : Adr, Txt (K w.params) mg A) :
   W.WalkO q loose XP YP l.row.toRowW d [] (fun f vs => PySem.call f vs) := by
 refine L2.walk_ofB (n := 63) (k := 40) (x := "_law_script") (CX := fun _ => CX0) (sp := fun w => sp_law (K w.params)) hn (by decide) hdf ⟨rfl, by decide, by decide⟩ hY (fun w mg fa h KX G hmg => ?_) (fun w H a ns hl hb _ hS => ⟨a, ns, rfl, hS, hl, hb, fun _ => rfl⟩) fun _ _ _ _ _ z => z
 obtain ⟨A, T⟩ := F w mg h KX G
 rw [hnm] at hmg
 have e := hmg.symm.trans T.m_law
 cases e
 obtain ⟨oc, od, kV, doc, pm, an, cdv, ct, osl, efd, lk, hcd⟩ := id T.F_law.ex
 exact ⟨A.d_law, fun s v => by rw [efd]; exact .of_eq rfl, fun base _ _ => ok_law T⟩
end K40
open PySem PySem.W PyProof.Rows
set_option maxRecDepth 100000 in
set_option maxHeartbeats 0 in
theorem PySem.Challenge.cw_askpaper_k40_rounds_one_by_one_holds : PySem.Challenge.rw_askpaper_k40_rounds_one_by_one.Holds := by
 refine PySem.Challenge.hd40 ?_
 k_fill
 refine K40.walk (l := PySem.Challenge.rw_askpaper_k40_rounds_one_by_one) rfl rfl rfl (fun w h Y => W.kIn_of Y) ?F
 case F =>
   intro w mg h KX G
   have T : ∃ A : K40.Adr, K40.Txt (L2.KOf KX) mg A := by
     dsimp only [L2.KOf]
     refine' K40.txt_mk KX G ?h5v ?h5w ?h5x ?h5y ?h5z ?h60 ?h61 ?h62 ?h63 ?h64 ?h65 ?h66 ?h67 ?h68 ?h69 ?h6a ?h6b ?h6c ?h6d ?h6e ?h00 ?h01 ?h02 ?h03 ?h04 ?h05 ?h06 ?h07 ?h08 ?h09 ?h0a ?h0b ?h0c ?h0d ?h0e ?h0f ?h0g ?h0h ?h0i ?h0j ?h0k ?h0l ?h0m ?h0n ?h0o ?h0p ?h0q ?h0r ?h0s ?h0t ?h0u ?h0v ?h0w ?h0x ?h0y ?h0z ?h10 ?h11 ?h12 ?h13 ?h14 ?h15 ?h16 ?h17 ?h18 ?h19 ?h1a ?h1b ?h1c ?h1d ?h1e ?h1f ?h1g ?h1h ?h1i ?h1j ?h1k ?h1l ?h1m ?h1n ?h1o ?h1p ?h1q ?h1r ?h1s ?h1t ?h1u ?h1v ?h1w ?h1x ?h1y ?h1z ?h20 ?h21 ?h22 ?h23 ?h24 ?h25 ?h26 ?h27 ?h28 ?h29 ?h2a ?h2b ?h2c ?h2d ?h2e ?h2f ?h2g ?h2h ?h2i ?h2j ?h2k ?h2l ?h2m ?h2n ?h2o ?h2p ?h2q ?h2r ?h2s ?h2t ?h2u ?h2v ?h2w ?h2x ?h2y ?h2z ?h30 ?h31 ?h32 ?h33 ?h34 ?h35 ?h36 ?h37 ?h38 ?h39 ?h3a ?h3b ?h3c ?h3d ?h3e ?h3f ?h3g ?h3h ?h3i ?h3j ?h3k ?h3l ?h3m ?h3n ?h3o ?h3p ?h3q ?h3r ?h3s ?h3t ?h3u ?h3v ?h3w ?h3x ?h3y ?h3z ?h40 ?h41 ?h42 ?h43 ?h44 ?h45 ?h46 ?h47 ?h48 ?h49 ?h4a ?h4b ?h4c ?h4d ?h4e ?h4f ?h4g ?h4h ?h4i ?h4j ?h4k ?h4l ?h4m ?h4n ?h4o ?h4p ?h4q ?h4r ?h4s ?h4t ?h4u ?h4v ?h4w ?h4x ?h4y ?h4z ?h50 ?h51 ?h52 ?h53 ?h54 ?h55 ?h56 ?h57 ?h58 ?h59 ?h5a ?h5b ?h5c ?h5d ?h5e ?h5f ?h5g ?h5h ?h5i ?h5j ?h5k ?h5l ?h5m ?h5n ?h5o ?h5p ?h5q ?h5r ?h5s ?h5t ?h5u ?h6f ?h6g ?h6h ?h6i ?h6j ?h6k ?h6l ?h6m ?h6n ?h6o ?h6p ?h6q ?h6r ?h6s ?h6t ?h6u ?h6v ?h6w ?h6x ?h6y ?h6z ?h70 ?h71 ?h72 ?h73 ?h74 ?h75 ?h76 ?h77 ?h78 ?h79 ?h7a ?h7b ?h7c ?h7d ?h7e ?h7f ?h7g ?h7h ?h7i ?h7j ?h7k ?h7l ?h7m ?h7n ?h7o ?h7p ?h7q ?h7r ?h7s ?h7t ?h7u ?h7v ?h7w ?h7x ?h7y ?h7z ?h80 ?h81 ?h82 ?h83 ?h84 ?h85 ?h86 ?h87 ?h88 ?h89 ?h8a ?h8b ?h8c ?h8d ?h8e ?h8f ?h8g ?h8h ?h8i ?h8j ?h8k ?h8l ?h8m ?h8n ?h8o ?h8p ?h8q ?h8r ?h8s ?h8t ?h8u ?h8v ?h8w ?h8x ?h8y ?h8z ?h90 ?h91 ?h92 ?h93 ?h94 ?h95 ?h96 ?h97 ?h98 ?h99 ?h9a ?h9b ?h9c ?h9d ?h9e ?h9f ?h9g ?h9h ?h9i ?h9j ?h9k ?h9l ?h9m ?h9n ?h9o ?h9p ?h9q ?h9r ?h9s ?h9t ?h9u ?h9v ?h9w ?h9x ?h9y ?h9z ?ha0 ?ha1 ?ha2 ?ha3 ?ha4 ?ha5 ?ha6 ?ha7 ?ha8 ?ha9 ?haa ?hab ?hac ?had ?hae ?haf ?hag ?hah ?hai ?haj ?hak ?hal ?ham ?han ?hao ?hap ?haq ?har ?has ?hat ?hau ?hav ?haw ?hax ?hay ?haz ?hb0 ?hb1 ?hb2 ?hb3 ?hb4 ?hb5 ?hb6 ?hb7 ?hb8 ?hb9 ?hba ?hbb ?hbc ?hbd ?hbe ?hbf ?hbg ?hbh ?hbi ?hbj ?hbk ?hbl ?hbm ?hbn ?hbo ?hbp ?hbq ?hbr ?hbs ?hbt ?hbu ?hbv ?hbw ?hbx ?hby ?hbz ?hc0 ?hc1 ?hc2 ?hc3 ?hc4 ?hc5 ?hc6 ?hc7 ?hc8 ?hc9 ?hca ?hcb ?hcc ?hcd ?hce ?hcf ?hcg ?hch ?hci ?hcj ?hck ?hcl ?hcm ?hcn ?hco ?hcp ?hcq ?hcr ?hcs ?hct ?hcu ?hcv ?hcw ?hcx ?hcy ?hcz ?hd0 ?hd1 ?hd2 ?hd3 ?hd4 ?hd5 ?hd6 ?hd7 ?hd8 ?hd9 ?hda ?hdb ?hdc ?hdd ?hde ?hdf ?hdg ?hdh ?hdi ?hdj ?hdk ?hdl ?hdm ?hdn ?hdo ?hdp ?hdq ?hdr ?hds ?hdt ?hdu ?hdv ?hdw ?hdx ?hdy ?hdz ?he0 ?he1 ?he2 ?he3 ?he4 ?he5 ?he6 ?he7 ?he8 ?he9 ?hea ?heb ?hec ?hed ?hee ?hef ?heg ?heh ?hei ?hej ?hek ?hel ?hem ?hen ?heo ?hep ?heq ?her ?hes ?het ?heu ?hev ?hew ?hex ?hey ?hez ?hf0 ?hf1 ?hf2 ?hf3 ?hf4 ?hf5 ?hf6 ?hf7 ?hf8 ?hf9 ?hfa ?hfb ?hfc ?hfd ?hfe ?hff ?hfg ?hfh ?hfi ?hfj ?hfk ?hfl ?hfm ?hfn ?hfo ?hfp ?hfq ?hfr ?hfs ?hft ?hfu ?hfv ?hfw ?hfx ?hfy ?hfz ?hg0 ?hg1 ?hg2
     (case h5v|h5w|h5x|h5y|h5z|h60|h61|h62|h63|h64|h65|h66|h67|h68|h69|h6a|h6b|h6c|h6d|h6e|h00|h01|h02|h03|h04|h05|h06|h07|h08|h09|h0a|h0b|h0c|h0d|h0e|h0f|h0g|h0h|h0i|h0j|h0k|h0l|h0m|h0n|h0o|h0p|h0q|h0r|h0s|h0t|h0u|h0v|h0w|h0x|h0y|h0z|h10|h11|h12|h13|h14|h15|h16|h17|h18|h19|h1a|h1b|h1c|h1d|h1e|h1f|h1g|h1h|h1i|h1j|h1k|h1l|h1m|h1n|h1o|h1p|h1q|h1r|h1s|h1t|h1u|h1v|h1w|h1x|h1y|h1z|h20|h21|h22|h23|h24|h25|h26|h27|h28|h29|h2a|h2b|h2c|h2d|h2e|h2f|h2g|h2h|h2i|h2j|h2k|h2l|h2m|h2n|h2o|h2p|h2q|h2r|h2s|h2t|h2u|h2v|h2w|h2x|h2y|h2z|h30|h31|h32|h33|h34|h35|h36|h37|h38|h39|h3a|h3b|h3c|h3d|h3e|h3f|h3g|h3h|h3i|h3j|h3k|h3l|h3m|h3n|h3o|h3p|h3q|h3r|h3s|h3t|h3u|h3v|h3w|h3x|h3y|h3z|h40|h41|h42|h43|h44|h45|h46|h47|h48|h49|h4a|h4b|h4c|h4d|h4e|h4f|h4g|h4h|h4i|h4j|h4k|h4l|h4m|h4n|h4o|h4p|h4q|h4r|h4s|h4t|h4u|h4v|h4w|h4x|h4y|h4z|h50|h51|h52|h53|h54|h55|h56|h57|h58|h59|h5a|h5b|h5c|h5d|h5e|h5f => k_is)
     (case h5g => rfl)
     (case h5h => rfl)
     (case h5i => rfl)
     (case h5j => rfl)
     (case h5k => exact .cons rfl rfl (.cons rfl rfl (.nil)))
     (case h5l|h5m|h5n|h5o|h5p|h5q|h5r|h5s|h5t|h5u|h6f|h6g|h6h|h6i|h6j|h6k|h6l|h6m|h6n|h6o|h6p|h6q|h6r|h6s|h6t|h6u|h6v|h6w|h6x|h6y => k_is)
     (case h6z => k_exc)
     (case h70 => k_is)
     (case h71 => rfl)
     (case h72 => rfl)
     (case h73 => exact ⟨rfl, rfl⟩)
     (case h74 => rfl)
     (case h75 => rfl)
     (case h76|h77|h78|h79|h7a|h7b|h7c|h7d|h7e|h7f|h7g|h7h|h7i|h7j => k_is)
     (case h7k => rfl)
     (case h7l => rfl)
     (case h7m => exact ⟨rfl, rfl⟩)
     (case h7n => rfl)
     (case h7o => rfl)
     (case h7p|h7q|h7r|h7s|h7t|h7u|h7v|h7w|h7x|h7y|h7z|h80|h81|h82 => k_is)
     (case h83 => rfl)
     (case h84 => rfl)
     (case h85 => exact ⟨rfl, rfl⟩)
     (case h86 => rfl)
     (case h87 => rfl)
     (case h88|h89|h8a|h8b|h8c|h8d|h8e|h8f|h8g|h8h|h8i|h8j|h8k|h8l => k_is)
     (case h8m => rfl)
     (case h8n => rfl)
     (case h8o => exact ⟨rfl, rfl⟩)
     (case h8p => rfl)
     (case h8q => rfl)
     (case h8r|h8s|h8t|h8u|h8v|h8w|h8x|h8y|h8z|h90|h91|h92|h93|h94 => k_is)
     (case h95 => rfl)
     (case h96 => rfl)
     (case h97 => exact ⟨rfl, rfl⟩)
     (case h98 => rfl)
     (case h99 => rfl)
     (case h9a|h9b|h9c|h9d|h9e|h9f|h9g|h9h|h9i|h9j|h9k|h9l|h9m|h9n => k_is)
     (case h9o => rfl)
     (case h9p => rfl)
     (case h9q => exact ⟨rfl, rfl⟩)
     (case h9r => rfl)
     (case h9s => rfl)
     (case h9t|h9u|h9v|h9w|h9x|h9y|h9z|ha0|ha1|ha2|ha3|ha4|ha5|ha6|ha7|ha8|ha9|haa|hab|hac|had|hae|haf|hag|hah|hai|haj|hak|hal => k_is)
     (case ham => rfl)
     (case han => k_is)
     (case hao => rfl)
     (case hap => k_is)
     (case haq => rfl)
     (case har => k_is)
     (case has => rfl)
     (case hat => k_is)
     (case hau => rfl)
     (case hav => k_is)
     (case haw => rfl)
     (case hax => k_is)
     (case hay => rfl)
     (case haz => k_is)
     (case hb0 => rfl)
     (case hb1 => k_is)
     (case hb2 => rfl)
     (case hb3 => k_is)
     (case hb4 => rfl)
     (case hb5 => k_is)
     (case hb6 => rfl)
     (case hb7 => k_is)
     (case hb8 => rfl)
     (case hb9 => k_is)
     (case hba => rfl)
     (case hbb => k_is)
     (case hbc => rfl)
     (case hbd => k_is)
     (case hbe => rfl)
     (case hbf => k_is)
     (case hbg => rfl)
     (case hbh => k_is)
     (case hbi => rfl)
     (case hbj => k_is)
     (case hbk => rfl)
     (case hbl => k_is)
     (case hbm => rfl)
     (case hbn => k_is)
     (case hbo => rfl)
     (case hbp => k_is)
     (case hbq => rfl)
     (case hbr => k_is)
     (case hbs => rfl)
     (case hbt => k_is)
     (case hbu => rfl)
     (case hbv => k_is)
     (case hbw => rfl)
     (case hbx => k_is)
     (case hby => rfl)
     (case hbz => k_is)
     (case hc0 => rfl)
     (case hc1 => k_is)
     (case hc2 => rfl)
     (case hc3 => k_is)
     (case hc4 => rfl)
     (case hc5 => k_is)
     (case hc6 => rfl)
     (case hc7 => k_is)
     (case hc8 => rfl)
     (case hc9 => k_is)
     (case hca => rfl)
     (case hcb => k_is)
     (case hcc => rfl)
     (case hcd => k_is)
     (case hce => rfl)
     (case hcf => k_is)
     (case hcg => rfl)
     (case hch => k_is)
     (case hci => rfl)
     (case hcj => k_is)
     (case hck => rfl)
     (case hcl => k_is)
     (case hcm => rfl)
     (case hcn => k_is)
     (case hco => rfl)
     (case hcp => k_is)
     (case hcq => rfl)
     (case hcr|hcs|hct|hcu|hcv|hcw|hcx|hcy|hcz|hd0|hd1|hd2|hd3|hd4|hd5|hd6|hd7|hd8|hd9|hda|hdb|hdc|hdd|hde|hdf|hdg|hdh|hdi|hdj|hdk|hdl|hdm|hdn|hdo|hdp|hdq|hdr|hds|hdt|hdu|hdv|hdw|hdx|hdy|hdz|he0|he1|he2|he3|he4|he5|he6|he7|he8|he9|hea|heb|hec|hed|hee|hef|heg|heh|hei|hej|hek|hel|hem|hen|heo|hep|heq|her|hes|het|heu|hev|hew|hex|hey|hez|hf0|hf1|hf2|hf3|hf4|hf5|hf6|hf7|hf8|hf9|hfa|hfb|hfc|hfd|hfe|hff|hfg|hfh|hfi|hfj|hfk|hfl|hfm|hfn|hfo|hfp|hfq|hfr|hfs|hft|hfu|hfv|hfw|hfx|hfy|hfz|hg0|hg1|hg2 => k_is)
   exact T
