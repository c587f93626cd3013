import PyProof.Rows.All
import OpenK.KLine
import OpenK.KWalk
import OpenK.KRaise
import Open.Line
import Wide.Line
import KE.IntBitsLaws
import KE.KIsAll
import KE.KTryMore
import KE.KNest
import KE.KLam
import Wide.FinOn
import Lean
import PyProof.EqAt
import PyProof.EqKinds
import PyProof.TupleCall
import PyProof.ZipIter
import PyProof.Rows.ZipGen
import PySem.Challenge.RW_askpaper_k21_fields
local macro_rules
 | `(‹$x:str›) => `((PySem.Str.ofString $x))
 | `(‹1›) => `((fun _ _ _ _ _ _ us hl => match us, hl with | [_], _ => rfl))
 | `(‹2›) => `((fun _ _ _ _ _ _ us hl => match us, hl with | [_, _], _ => rfl))
 | `(‹3›) => `((fun _ _ _ _ _ _ us hl => match us, hl with | [_, _, _], _ => rfl))
 | `(‹4›) => `((fun _ _ _ _ _ _ us hl => match us, hl with | [_, _, _, _], _ => rfl))
 | `(‹5›) => `((fun _ _ _ _ _ _ us hl => match us, hl with | [_, _, _, _, _], _ => rfl))
 | `(‹$x:ident›) => `((($x).mono (by first | decide | omega)))
local macro_rules | `(tactic| symm) => `(tactic| decide +kernel)
set_option Elab.async false
set_option linter.all false
set_option maxRecDepth 100000
namespace PySem.W.Fast
def tw10014244678884949392 := ()
def tw10058480018916223091 := ()
def tw10069235489139740264 := ()
def tw10119199725234418292 := ()
def tw1013547540676411582 := ()
def tw10187831919523918321 := ()
def tw10251303506265176190 := ()
def tw10270855241251869055 := ()
def tw10331172914451179330 := ()
def tw10360691862453302835 := ()
def tw10454354497709851626 := ()
def tw10475640387509367128 := ()
def tw10795660874555677426 := ()
def tw10815665713669991907 := ()
def tw10837442582647794290 := ()
def tw10892024215312485201 := ()
def tw10902429486417635163 := ()
def tw10975201510278580682 := ()
def tw11040230735515224601 := ()
def tw11081560515156245204 := ()
def tw11090241582244090221 := ()
def tw11117045892293856917 := ()
def tw11191601795914767762 := ()
def tw11198093518731987406 := ()
def tw11202046399194925141 := ()
def tw11371311454557742030 := ()
def tw11420150888011078771 := ()
def tw11462666801119564230 := ()
def tw11490471544256662244 := ()
def tw11515200361688630346 := ()
def tw11541142333291821723 := ()
def tw11572444479947632912 := ()
def tw11628119001226532388 := ()
def tw11655202771973067587 := ()
def tw11666093660056974230 := ()
def tw11673630523121601324 := ()
def tw11801606238695133625 := ()
def tw11838993884921514716 := ()
def tw11883088414681352306 := ()
def tw11941034375655219782 := ()
def tw11966239425331477572 := ()
def tw12004076467321922862 := ()
def tw12015488955950925223 := ()
def tw12040052893331662188 := ()
def tw12087188569307952630 := ()
def tw12097955862443581215 := ()
def tw12191115644158454293 := ()
def tw12229540968163408853 := ()
def tw12237231210571906867 := ()
def tw12260841246211780913 := ()
def tw12268905884920259692 := ()
def tw12289568346970838864 := ()
def tw12448287939469554693 := ()
def tw12525060878300700205 := ()
def tw12994136585475797229 := ()
def tw13037637322152842485 := ()
def tw13111966881968064958 := ()
def tw13274987000907174414 := ()
def tw13298985577117124185 := ()
def tw13355733641675367959 := ()
def tw13432826217217297967 := ()
def tw13453179379909520675 := ()
def tw13520568024512298152 := ()
def tw13686779950274930826 := ()
def tw13687994625857162632 := ()
def tw13761221247039443392 := ()
def tw13844699976828098167 := ()
def tw13864973553048074967 := ()
def tw13900783602843066606 := ()
def tw14016823779194636426 := ()
def tw14039333536288719676 := ()
def tw14057408335129143633 := ()
def tw14114309604634804721 := ()
def tw14160095807114266054 := ()
def tw14169054465252063729 := ()
def tw14283442642319290154 := ()
def tw14376692862198201608 := ()
def tw14392549015342261826 := ()
def tw1443405108428704339 := ()
def tw14446219649316122182 := ()
def tw14467584590065952400 := ()
def tw14566586914391472100 := ()
def tw14653689254966229977 := ()
def tw14676613843845789158 := ()
def tw14717604242125912083 := ()
def tw14853348311691343935 := ()
def tw15036151880477642133 := ()
def tw15216817181392556852 := ()
def tw1535359938301063172 := ()
def tw15379196043537585212 := ()
def tw15383398927498003432 := ()
def tw15426224989388562868 := ()
def tw15432873745141003459 := ()
def tw15442505760560925746 := ()
def tw1547174614558170811 := ()
def tw15544775693327434421 := ()
def tw15558513934654844572 := ()
def tw1558646761794150297 := ()
def tw15611026658990065466 := ()
def tw15855955775816564936 := ()
def tw16003155735100427451 := ()
def tw16008462049089563869 := ()
def tw16057993806464235387 := ()
def tw16092692204471010809 := ()
def tw1610282584643636578 := ()
def tw16146899788149561828 := ()
def tw1620613433066534400 := ()
def tw16294413384528391363 := ()
def tw16328808191429379791 := ()
def tw16358051751035906948 := ()
def tw16376404013881384037 := ()
def tw1645871424285238874 := ()
def tw16483636642855182987 := ()
def tw16574049328855904953 := ()
def tw16574445897718362907 := ()
def tw16578212941430043397 := ()
def tw16584131898177970818 := ()
def tw16654862895696586134 := ()
def tw16673591774435341768 := ()
def tw16753587076772025441 := ()
def tw16755515814855683547 := ()
def tw16799491339957940558 := ()
def tw168400042565450290 := ()
def tw16850069304760434253 := ()
def tw16991712924163094454 := ()
def tw17191166674806265447 := ()
def tw17304863846951764748 := ()
def tw17315453446911716278 := ()
def tw17361464865054875031 := ()
def tw17445928172724224056 := ()
def tw17486419660847848394 := ()
def tw17579496144525968395 := ()
def tw17625303427194086509 := ()
def tw17645304167463307469 := ()
def tw17661091226047376366 := ()
def tw17765247450896935595 := ()
def tw17790178708847552176 := ()
def tw17804596232701003152 := ()
def tw17813131389128688814 := ()
def tw17831950765402167464 := ()
def tw18017921590352965449 := ()
def tw18035191708156993327 := ()
def tw18060259942599384272 := ()
def tw18078415441842596265 := ()
def tw18131354623155554905 := ()
def tw18140219056181368761 := ()
def tw18202170866301310776 := ()
def tw18247696966619635280 := ()
def tw18288576639954642355 := ()
def tw18349874523629282334 := ()
def tw18372255874784164873 := ()
def tw18421651351419272861 := ()
def tw1898378136248682651 := ()
def tw1926861857832457808 := ()
def tw2117673651366779348 := ()
def tw2222064950527080921 := ()
def tw2268321494297153517 := ()
def tw2344163497540827090 := ()
def tw2350597152013505318 := ()
def tw2357930024365363495 := ()
def tw236530354198877639 := ()
def tw2516472086475856758 := ()
def tw2572867602331737700 := ()
def tw2708378519398170954 := ()
def tw2713795905253482282 := ()
def tw2725943357630821108 := ()
def tw2736702643137476216 := ()
def tw2758720369746455880 := ()
def tw2761123198831255873 := ()
def tw2824536283072936536 := ()
def tw2830196563879633647 := ()
def tw2833566218745129009 := ()
def tw2842999234255012109 := ()
def tw2895995751713396846 := ()
def tw2959219529798978452 := ()
def tw2993289956731186056 := ()
def tw2995027930989626596 := ()
def tw3006619740100944174 := ()
def tw3052737994563941417 := ()
def tw3070959431837854294 := ()
def tw310988498375767817 := ()
def tw3304070660640154541 := ()
def tw3391713861469296405 := ()
def tw3438541255356035589 := ()
def tw3483476233098451461 := ()
def tw354024926688892475 := ()
def tw359241712782813836 := ()
def tw3617922905944435842 := ()
def tw3630920097340179788 := ()
def tw3653601005987766554 := ()
def tw3676288681747962978 := ()
def tw3763274923477330254 := ()
def tw3840671545097523962 := ()
def tw3879812375555043207 := ()
def tw3958328051215132967 := ()
def tw3963167206370833759 := ()
def tw4035492336444116377 := ()
def tw4071085529714721478 := ()
def tw4141836906122856900 := ()
def tw4237879699412635198 := ()
def tw4243086204119475233 := ()
def tw426701670357823007 := ()
def tw4283133177766267534 := ()
def tw4342129478069072173 := ()
def tw4454422359191044861 := ()
def tw4459773702881863157 := ()
def tw45013254411212084 := ()
def tw4503303105222488678 := ()
def tw4592252201884262768 := ()
def tw4625058653572181928 := ()
def tw4657876301975634130 := ()
def tw4751305732605163083 := ()
def tw4872290039003885437 := ()
def tw4971404602365563585 := ()
def tw5003795037688783702 := ()
def tw5035912204368247876 := ()
def tw5041032508574512944 := ()
def tw5119913299054401499 := ()
def tw5126752779986533078 := ()
def tw5130114393646550805 := ()
def tw5204903600620898326 := ()
def tw5262186351602277211 := ()
def tw5275830523603323565 := ()
def tw5386019525855064882 := ()
def tw5482090340665204292 := ()
def tw5507307367274000540 := ()
def tw565927879335473488 := ()
def tw5719224975983701284 := ()
def tw5767594585185257383 := ()
def tw5799348019212873916 := ()
def tw5843668777078377414 := ()
def tw5860789123877453974 := ()
def tw5901169951187826026 := ()
def tw6033594327882502111 := ()
def tw6184738357146727128 := ()
def tw6297478512904043175 := ()
def tw6342399438347420094 := ()
def tw6346112699482841318 := ()
def tw6382540339602944418 := ()
def tw6387878045338227737 := ()
def tw6427213808417355957 := ()
def tw6445155844055514262 := ()
def tw6509847499728280252 := ()
def tw6609493537167555269 := ()
def tw6818373720454602470 := ()
def tw6831742082253398485 := ()
def tw6984996942047498313 := ()
def tw7039576459905624624 := ()
def tw7051905485968622672 := ()
def tw7112761706509240019 := ()
def tw7137681580298008663 := ()
def tw7229217865365941983 := ()
def tw7229646168803803236 := ()
def tw7242058019951872020 := ()
def tw7254741157651523810 := ()
def tw7330811410963478751 := ()
def tw7341573232769876265 := ()
def tw7549617201099630364 := ()
def tw7645570688527984652 := ()
def tw7724148596583463652 := ()
def tw7753835890898074180 := ()
def tw7885284863275455296 := ()
def tw7892100976507399471 := ()
def tw8114337478835523263 := ()
def tw8278363730960564553 := ()
def tw8336138055694230095 := ()
def tw835015734564071717 := ()
def tw8398281767755355266 := ()
def tw8478703160323973955 := ()
def tw848050647018609433 := ()
def tw8532110416470986880 := ()
def tw8566469425344434585 := ()
def tw863163616163982411 := ()
def tw865399891667654378 := ()
def tw8673286769561085880 := ()
def tw8684673737472251297 := ()
def tw8690985459695356123 := ()
def tw8711648851386445585 := ()
def tw8714748738512913594 := ()
def tw8941305121195221889 := ()
def tw8968817349495416595 := ()
def tw9000087413553491580 := ()
def tw907477673755880569 := ()
def tw9145115357250378623 := ()
def tw9162486609171034300 := ()
def tw9183258550221401746 := ()
def tw9188354653785134047 := ()
def tw9290699869663797042 := ()
def tw9327200525792542143 := ()
def tw9335935887517475054 := ()
def tw9342275710149368281 := ()
def tw9363702702545621853 := ()
def tw9396936810203603269 := ()
def tw9402257054722341978 := ()
def tw9513869030514178071 := ()
def tw9662844923839228204 := ()
def tw9683125455553351664 := ()
def tw9750230337261359023 := ()
def tw9774944920072762445 := ()
def tw9879090068048572016 := ()
end PySem.W.Fast
section
namespace Hk
open PySem PySem.W
theorem chs {α β : Type} {f : β → α} {l : List β} {γ : Type} {g : γ → α} {l2 : List γ} {n m k : Nat} (h1 : ((l.drop n).take m).map f = ((l2.drop n).take m).map g) (hk : n + m = k) (h2 : (l.drop k).map f = (l2.drop k).map g) : (l.drop n).map f = (l2.drop n).map g := by
  subst hk
  rw [← List.take_append_drop m (l.drop n), ← List.take_append_drop m (l2.drop n), List.map_append, List.map_append, h1, List.drop_drop, List.drop_drop, h2]
theorem ch {K : Params → Frag} {as : List Addr} (e : ∀ P, as = (K P).map (·.1)) (w : World) (s : Shared) (x : ((((((as.drop 0).take 64).map s.heap.get?, ((as.drop 64).take 64).map s.heap.get?), (((as.drop 128).take 64).map s.heap.get?, ((as.drop 192).take 64).map s.heap.get?)), ((((as.drop 256).take 64).map s.heap.get?, ((as.drop 320).take 64).map s.heap.get?), (((as.drop 384).take 64).map s.heap.get?, ((as.drop 448).take 64).map s.heap.get?))), (((((as.drop 512).take 64).map s.heap.get?, ((as.drop 576).take 64).map s.heap.get?), (((as.drop 640).take 64).map s.heap.get?, ((as.drop 704).take 64).map s.heap.get?)), ((((as.drop 768).take 64).map s.heap.get?, ((as.drop 832).take 64).map s.heap.get?), (((as.drop 896).take 64).map s.heap.get?, (as.drop 960).map s.heap.get?)))) = (((((((K w.params).drop 0).take 64).map (fun p => some p.2), (((K w.params).drop 64).take 64).map (fun p => some p.2)), ((((K w.params).drop 128).take 64).map (fun p => some p.2), (((K w.params).drop 192).take 64).map (fun p => some p.2))), (((((K w.params).drop 256).take 64).map (fun p => some p.2), (((K w.params).drop 320).take 64).map (fun p => some p.2)), ((((K w.params).drop 384).take 64).map (fun p => some p.2), (((K w.params).drop 448).take 64).map (fun p => some p.2)))), ((((((K w.params).drop 512).take 64).map (fun p => some p.2), (((K w.params).drop 576).take 64).map (fun p => some p.2)), ((((K w.params).drop 640).take 64).map (fun p => some p.2), (((K w.params).drop 704).take 64).map (fun p => some p.2))), (((((K w.params).drop 768).take 64).map (fun p => some p.2), (((K w.params).drop 832).take 64).map (fun p => some p.2)), ((((K w.params).drop 896).take 64).map (fun p => some p.2), ((K w.params).drop 960).map (fun p => some p.2)))))) : InK K w s.heap := by
  simp only [Prod.mk.injEq] at x
  obtain ⟨⟨⟨⟨x0, x1⟩, ⟨x2, x3⟩⟩, ⟨⟨x4, x5⟩, ⟨x6, x7⟩⟩⟩, ⟨⟨⟨x8, x9⟩, ⟨x10, x11⟩⟩, ⟨⟨x12, x13⟩, ⟨x14, x15⟩⟩⟩⟩ := x
  have y15 := x15
  have y14 := chs x14 (by decide) y15
  have y13 := chs x13 (by decide) y14
  have y12 := chs x12 (by decide) y13
  have y11 := chs x11 (by decide) y12
  have y10 := chs x10 (by decide) y11
  have y9 := chs x9 (by decide) y10
  have y8 := chs x8 (by decide) y9
  have y7 := chs x7 (by decide) y8
  have y6 := chs x6 (by decide) y7
  have y5 := chs x5 (by decide) y6
  have y4 := chs x4 (by decide) y5
  have y3 := chs x3 (by decide) y4
  have y2 := chs x2 (by decide) y3
  have y1 := chs x1 (by decide) y2
  have y0 := chs x0 (by decide) y1
  exact InK.of e w s y0
end Hk
open Lean in
local macro_rules
  | `($f:ident $h:term) => do
    let n := f.getId.eraseMacroScopes
    unless n == `Hook.obs || n == `Hook.val || n == `Hook.of do Macro.throwUnsupported
    match h with
    | `(($g:ident $k $a $e)) =>
      unless g.getId.eraseMacroScopes == `kHook do Macro.throwUnsupported
      if n == `Hook.obs then `(fun (s : PySem.Shared) => ((((((($a).drop 0).take 64).map s.heap.get?, ((($a).drop 64).take 64).map s.heap.get?), (((($a).drop 128).take 64).map s.heap.get?, ((($a).drop 192).take 64).map s.heap.get?)), ((((($a).drop 256).take 64).map s.heap.get?, ((($a).drop 320).take 64).map s.heap.get?), (((($a).drop 384).take 64).map s.heap.get?, ((($a).drop 448).take 64).map s.heap.get?))), (((((($a).drop 512).take 64).map s.heap.get?, ((($a).drop 576).take 64).map s.heap.get?), (((($a).drop 640).take 64).map s.heap.get?, ((($a).drop 704).take 64).map s.heap.get?)), ((((($a).drop 768).take 64).map s.heap.get?, ((($a).drop 832).take 64).map s.heap.get?), (((($a).drop 896).take 64).map s.heap.get?, (($a).drop 960).map s.heap.get?)))))
      else if n == `Hook.val then `(fun (w : PySem.World) => (((((((($k) w.params).drop 0).take 64).map (fun p => some p.2), (((($k) w.params).drop 64).take 64).map (fun p => some p.2)), ((((($k) w.params).drop 128).take 64).map (fun p => some p.2), (((($k) w.params).drop 192).take 64).map (fun p => some p.2))), (((((($k) w.params).drop 256).take 64).map (fun p => some p.2), (((($k) w.params).drop 320).take 64).map (fun p => some p.2)), ((((($k) w.params).drop 384).take 64).map (fun p => some p.2), (((($k) w.params).drop 448).take 64).map (fun p => some p.2)))), ((((((($k) w.params).drop 512).take 64).map (fun p => some p.2), (((($k) w.params).drop 576).take 64).map (fun p => some p.2)), ((((($k) w.params).drop 640).take 64).map (fun p => some p.2), (((($k) w.params).drop 704).take 64).map (fun p => some p.2))), (((((($k) w.params).drop 768).take 64).map (fun p => some p.2), (((($k) w.params).drop 832).take 64).map (fun p => some p.2)), ((((($k) w.params).drop 896).take 64).map (fun p => some p.2), ((($k) w.params).drop 960).map (fun p => some p.2))))))
      else `(Hk.ch (K := $k) (as := $a) $e)
    | _ => Macro.throwUnsupported
open PySem PySem.W PyProof.Rows
set_option maxHeartbeats 0 in
open_top PySem.Challenge.hd21 for PySem.Challenge.rw_askpaper_k21_fields
end
namespace L2
open PySem PySem.Spec PyProof.Rows
abbrev Key := Sum Int Str
def Zv : Key → Value → Bool
 | .inl k, v => Value.isInt k v
 | .inr x, v => Value.isStrOf x v
def aoK (w : World) : Key → Int
 | .inl k => hashInt k
 | .inr x => hashStr w x
theorem yV : ∀ {k : Key} {v : Value}, Zv k v = true → (∃ i t, k = Sum.inl i ∧ v = Value.int i t) ∨ (∃ x t, k = Sum.inr x ∧ v = Value.str x t)
 | .inl i, v, h => by
   obtain ⟨t, e⟩ := Value.isInt_shape (k := i) (v := v) h
   exact .inl ⟨i, t, rfl, e⟩
 | .inr x, v, h => by
   obtain ⟨t, e⟩ := Value.isStrOf_shape (x := x) (v := v) h
   exact .inr ⟨x, t, rfl, e⟩
theorem aas (a b : Int) : decide ((Sum.inl a : Key) = Sum.inl b) = (a == b) := by
 by_cases e : a = b
 · subst e; simp
 · have h : ¬ (Sum.inl a : Key) = Sum.inl b := fun q => e (Sum.inl.inj q)
   rw [decide_eq_false h]
   exact (beq_eq_false_iff_ne.mpr e).symm
theorem aat (a b : Str) : decide ((Sum.inr a : Key) = Sum.inr b) = decide (a = b) := by
 by_cases e : a = b
 · subst e; simp
 · have h : ¬ (Sum.inr a : Key) = Sum.inr b := fun q => e (Sum.inr.inj q)
   rw [decide_eq_false h, decide_eq_false e]
theorem aau (a : Int) (b : Str) : decide ((Sum.inl a : Key) = Sum.inr b) = false := decide_eq_false (fun q => nomatch q)
theorem aav (a : Str) (b : Int) : decide ((Sum.inr a : Key) = Sum.inl b) = false := decide_eq_false (fun q => nomatch q)
def Rr (prog : Program) (w : World) : PySem.KeyKind prog w Key where
 is := Zv
 hash := aoK w
 inj := fun v a b ha hb => by
   rcases yV ha with ⟨i, t, rfl, rfl⟩ | ⟨x, t, rfl, rfl⟩
   · rcases yV hb with ⟨j, u, rfl, e⟩ | ⟨y, u, rfl, e⟩
     · injection e with e1 _; rw [e1]
     · exact nomatch e
   · rcases yV hb with ⟨j, u, rfl, e⟩ | ⟨y, u, rfl, e⟩
     · exact nomatch e
     · injection e with e1 _; rw [e1]
 byValue := fun k v h => by
   rcases yV h with ⟨i, t, rfl, rfl⟩ | ⟨x, t, rfl, rfl⟩ <;> rfl
 pyHash := fun hv h => by
   rcases yV hv with ⟨i, t, rfl, rfl⟩ | ⟨x, t, rfl, rfl⟩
   · exact wpAny_pyHash_int h
   · exact wpAny_pyHash_str h
 eqBool := fun hu hv h => by
   rcases yV hu with ⟨i, t, rfl, rfl⟩ | ⟨x, t, rfl, rfl⟩
   · rcases yV hv with ⟨j, u, rfl, rfl⟩ | ⟨y, u, rfl, rfl⟩
     · rw [aas] at h; exact wpAny_eqBool_int h
     · rw [aau] at h; exact SeqAt.EqAt.int_str i t y u _ _ _ _ h
   · rcases yV hv with ⟨j, u, rfl, rfl⟩ | ⟨y, u, rfl, rfl⟩
     · rw [aav] at h; exact SeqAt.EqAt.str_int x t j u _ _ _ _ h
     · rw [aat] at h; exact wpAny_eqBool_str h
 «strs» := fun k x t v h => by
   rcases yV h with ⟨i, u, rfl, e⟩ | ⟨y, u, rfl, e⟩
   · exact nomatch e
   · injection e with e1 _
     subst e1
     cases v <;> rfl
end L2
namespace L2
open PySem PySem.Spec PyProof.Rows
inductive V where
 | non | bl (b : Bool) | int (i : Int) | str (x : Str) | Uv (b : Array UInt8) | flt (b : UInt64) | ref (a : Addr) | ty (n : String)
 deriving DecidableEq
def RelV : V → Value → Prop
 | .non, u => u = Value.none
 | .bl b, u => u = Value.bool b
 | .int i, u => ∃ t, u = Value.int i t
 | .str x, u => ∃ t, u = Value.str x t
 | .Uv b, u => ∃ t, u = Value.bytes b t
 | .flt b, u => ∃ t, u = Value.float b t
 | .ref a, u => u = Value.ref a
 | .ty n, u => u = Value.type n
abbrev Vals : List V → List Value → Prop := Paired RelV
theorem Vals.length {xs : List V} {us : List Value} (r : Vals xs us) : xs.length = us.length := Paired.length r
theorem Vals.get : ∀ {xs : List V} {us : List Value} {i : Nat} {x : V}, Vals xs us → xs[i]? = some x → ∃ u, us[i]? = some u ∧ RelV x u
 | _, _, _, _, .nil, e => by simp at e
 | _, _, 0, _, .cons r _, e => by simp at e; subst e; exact ⟨_, rfl, r⟩
 | _, _, i + 1, x, .cons _ t, e => by
   obtain ⟨u, h1, h2⟩ := Vals.get (i := i) (x := x) t (by simpa using e)
   exact ⟨u, by simpa using h1, h2⟩
theorem Vals.set {x : V} {u : Value} (r : RelV x u) : ∀ {xs : List V} {us : List Value} (i : Nat), Vals xs us → Vals (xs.set i x) (us.set i u)
 | _, _, _, .nil => .nil
 | _, _, 0, .cons _ t => .cons r t
 | _, _, i + 1, .cons q t => .cons q (Vals.set r i t)
theorem Vals.append : ∀ {xs ys : List V} {us ws : List Value}, Vals xs us → Vals ys ws → Vals (xs ++ ys) (us ++ ws)
 | _, _, _, _, .nil, s => s
 | _, _, _, _, .cons r t, s => .cons r (Vals.append t s)
theorem Vals.take : ∀ {xs : List V} {us : List Value} (n : Nat), Vals xs us → Vals (xs.take n) (us.take n)
 | _, _, 0, _ => .nil
 | _, _, _ + 1, .nil => .nil
 | _, _, n + 1, .cons r t => .cons r (Vals.take n t)
theorem Vals.drop : ∀ {xs : List V} {us : List Value} (n : Nat), Vals xs us → Vals (xs.drop n) (us.drop n)
 | _, _, 0, r => r
 | _, _, _ + 1, .nil => .nil
 | _, _, n + 1, .cons _ t => Vals.drop n t
theorem Vals.none_of : ∀ {xs : List V} {us : List Value} {i : Nat}, Vals xs us → xs[i]? = none → us[i]? = none := fun {xs us i} r e => by
 have h1 := r.length
 have h2 : xs.length ≤ i := List.getElem?_eq_none_iff.mp e
 exact List.getElem?_eq_none_iff.mpr (by omega)
def xW : Option V → Option Value → Prop
 | some v, some u => RelV v u
 | none, none => True
 | _, _ => False
def KV {κ : Type} : List (κ × V) → List (κ × Value) → Prop := Paired fun (p : κ × V) (q : κ × Value) => p.1 = q.1 ∧ RelV p.2 q.2
def kV : Key → V
 | .inl i => .int i
 | .inr x => .str x
inductive HO where
 | lst (xs : List V)
 | tup (xs : List V)
 | dK (kvs : List (Key × V)) | dT (kvs : List (List Key × V))
 | set (S : Int → Bool) (n : Nat)
 | ins (C dx : Addr) (fs : List (Str × V))
 | own (x : Addr)
 | xd (fs : List (Str × V))
 | met (f x : Addr)
 | rng (lo hi : Int)
 | Mu (o : Obj) (u : HO)
 | XH (ps : Array Value)
 | ext (φ : Heap → Prop)
abbrev Hp := Addr → Option HO
def upd (H : Hp) (a : Addr) (o : HO) : Hp := fun b => if b = a then some o else H b
theorem zD {H : Hp} {a : Addr} {o : HO} : upd H a o a = some o := by unfold upd; rw [if_pos rfl]
theorem zP {H : Hp} {a b : Addr} {o : HO} (h : b ≠ a) : upd H a o b = H b := by unfold upd; rw [if_neg h]
theorem yH {H : Hp} {a : Addr} {o u : HO} : upd (upd H a o) a u = upd H a u := by
 funext b; unfold upd; split <;> rfl
theorem My {H : Hp} {a b : Addr} {o u : HO} (h : H a = some o) (h' : H b = some u) (d : o ≠ u) : a ≠ b := by
 intro e; subst e; rw [h] at h'; exact d (Option.some.inj h')
theorem zV {H : Hp} {a b : Addr} {o : HO} (h : H a = some o) (h' : H b = none) : a ≠ b := by
 intro e; subst e; rw [h] at h'; cases h'
section
variable (P : Program) (w : World)
def gr (H : Hp) (h : Heap) (a : Addr) : HO → Prop
 | .lst xs => xs.length ≤ sizeLine ∧ ∃ (its : List Value) (n : Nat), Vals xs its ∧ h.get? a = some { cls := .type "list", data := .seq its.toArray n }
 | .tup xs => xs.length ≤ sizeLine ∧ ∃ its : List Value, Vals xs its ∧ IsTup h a its.toArray
 | .dK kvs => kvs.length ≤ sizeLine ∧ (a == sysModules) = false ∧ ∃ vs, KV kvs vs ∧ h.DictOf (Rr P w) a vs
 | .dT kvs => kvs.length ≤ sizeLine ∧ (a == sysModules) = false ∧ ∃ xs : List (List Key × Addr × Value),
     Paired (fun (p : List Key × V) (q : List Key × Addr × Value) => p.1 = q.1 ∧ H q.2.1 = some (.tup (p.1.map kV)) ∧ RelV p.2 q.2.2) kvs xs ∧
     ∃ o es ep, h.get? a = some o ∧ o.ExactDict ∧ o.data = .dict es ep ∧ es.toList = xs.map (entryOfKey (tupleKind (Rr P w))) ∧ (xs.map (·.1)).Nodup
 | .set S n => h.SetOf (intKind P w) a S n
 | .ins C dx fs => H dx = some (.own a) ∧ fs.length ≤ 1000 ∧ dx ≠ a ∧ h.get? a = some (PySem.W.instObj C dx) ∧
     ∃ mA, h.Ns1 dx mA ∧ (∀ f, xW (fs.lookup f) (mA f)) ∧ PySem.Within mA (fs.map (·.1))
 | .own _ => ∃ o, h.get? a = some o
 | .xd fs => ∃ mA, h.Ns1 a mA ∧ ∀ f, xW (fs.lookup f) (mA f)
 | .rng lo hi => ∃ t u v, h.get? a = some { cls := .type "range", data := .fields #[.int lo t, .int hi u, .int 1 v] }
 | .Mu o u => h.get? a = some o ∧ gr H h a u
 | .XH ps => h.get? a = some { cls := .none, data := .fields ps }
 | .met f x => h.get? a = some (PySem.W.methodObj (.ref f) (.ref x))
 | .ext φ => φ h ∧ (∃ o, h.get? a = some o) ∧ ∀ h1 h2 : Heap, φ h1 → (∀ o, h1.get? a = some o → h2.get? a = some o) → φ h2
def Dd (H : Hp) (h : Heap) : Prop := ∀ a o, H a = some o → gr P w H h a o
end
section
variable {P : Program} {w : World} {H H' : Hp} {h h' : Heap} {a : Addr} {o : HO}
theorem gr.lt (x : gr P w H h a o) : a < h.objs.size := by
 cases o with
 | lst xs => obtain ⟨_, _, _, _, e⟩ := x; exact Heap.lt_size e
 | tup xs => obtain ⟨_, _, _, p⟩ := x; exact p.lt
 | dK kvs => obtain ⟨_, _, _, _, o, _, _, e, _⟩ := x; exact Heap.lt_size e
 | dT kvs => obtain ⟨_, _, _, _, o, _, _, e, _⟩ := x; exact Heap.lt_size e
 | set S n => obtain ⟨o, _, _, _, e, _⟩ := x; exact Heap.lt_size e
 | ins C dx fs => obtain ⟨_, _, _, e, _⟩ := x; exact Heap.lt_size e
 | own y => obtain ⟨_, e⟩ := x; exact Heap.lt_size e
 | xd fs => obtain ⟨_, ⟨_, _, _, e, _⟩, _⟩ := x; exact Heap.lt_size e
 | rng lo hi => obtain ⟨_, _, _, e⟩ := x; exact Heap.lt_size e
 | Mu ob u => obtain ⟨e, _⟩ := x; exact Heap.lt_size e
 | XH ps => exact Heap.lt_size (show h.get? a = some _ from x)
 | met f y => exact Heap.lt_size (show h.get? a = some _ from x)
 | ext φ => obtain ⟨_, ⟨_, e⟩, _⟩ := x; exact Heap.lt_size e
theorem Paired.aaw {α β : Type} {F G : α → β → Prop} : ∀ {l₁ : List α} {l₂ : List β}, Paired F l₁ l₂ → (∀ a b, F a b → G a b) → Paired G l₁ l₂
 | _, _, .nil, _ => .nil
 | _, _, .cons r t, f => .cons (f _ _ r) (Paired.aaw t f)
theorem gr.stay (x : gr P w H h a o) (k : ∀ b u, (b = a ∨ H b = some (.own a)) → h.get? b = some u → h'.get? b = some u)
   (ho : ∀ b, H b = some (.own a) → H' b = some (.own a)) (ht : ∀ b xs, H b = some (.tup xs) → H' b = some (.tup xs)) : gr P w H' h' a o := by
 induction o with
 | lst xs => obtain ⟨z, its, n, r, e⟩ := x; exact ⟨z, its, n, r, k _ _ (.inl rfl) e⟩
 | tup xs => obtain ⟨z, its, r, ob, e, c⟩ := x; exact ⟨z, its, r, ob, k _ _ (.inl rfl) e, c⟩
 | dK kvs => obtain ⟨z, y, vs, r, ob, es, ep, e, c⟩ := x; exact ⟨z, y, vs, r, ob, es, ep, k _ _ (.inl rfl) e, c⟩
 | dT kvs =>
   obtain ⟨z, y, xs, r, ob, es, ep, e, c⟩ := x
   exact ⟨z, y, xs, Paired.aaw r fun p q z => ⟨z.1, ht _ _ z.2.1, z.2.2⟩, ob, es, ep, k _ _ (.inl rfl) e, c⟩
 | set S n => obtain ⟨ob, es, ep, t, e, c⟩ := x; exact ⟨ob, es, ep, t, k _ _ (.inl rfl) e, c⟩
 | ins C dx fs =>
   obtain ⟨d, z, ne, e, mA, ⟨od, es, ep, e2, c⟩, r⟩ := x
   exact ⟨ho _ d, z, ne, k _ _ (.inl rfl) e, mA, ⟨od, es, ep, k _ _ (.inr d) e2, c⟩, r⟩
 | own y => obtain ⟨ob, e⟩ := x; exact ⟨ob, k _ _ (.inl rfl) e⟩
 | xd fs => obtain ⟨mA, ⟨od, es, ep, e, c⟩, r⟩ := x; exact ⟨mA, ⟨od, es, ep, k _ _ (.inl rfl) e, c⟩, r⟩
 | rng lo hi => obtain ⟨t, u, v, e⟩ := x; exact ⟨t, u, v, k _ _ (.inl rfl) e⟩
 | Mu ob u ih => obtain ⟨e, q⟩ := x; exact ⟨k _ _ (.inl rfl) e, ih q⟩
 | XH ps =>
   have e : h.get? a = some { cls := .none, data := .fields ps } := x
   show h'.get? a = some { cls := .none, data := .fields ps }
   exact k a _ (.inl rfl) e
 | met f y =>
   have e : h.get? a = some (PySem.W.methodObj (.ref f) (.ref y)) := x
   show h'.get? a = some (PySem.W.methodObj (.ref f) (.ref y))
   exact k a _ (.inl rfl) e
 | ext φ => obtain ⟨p, ⟨o, e⟩, st⟩ := x; exact ⟨st _ _ p fun o q => k _ _ (.inl rfl) q, ⟨o, k _ _ (.inl rfl) e⟩, st⟩
theorem Dd.lt (x : Dd P w H h) (e : H a = some o) : a < h.objs.size := (x a o e).lt
theorem Dd.fresh (x : Dd P w H h) (e : h.objs.size ≤ a) : H a = none := by
 cases q : H a with
 | none => rfl
 | some u => exact absurd (Nat.lt_of_lt_of_le (x.lt q) e) (Nat.lt_irrefl _)
theorem Dd.kept (x : Dd P w H h) (k : ∀ b u, h.get? b = some u → h'.get? b = some u) : Dd P w H h' := fun a o e =>
 (x a o e).stay (fun b u _ q => k b u q) (fun _ q => q) fun _ _ q => q
theorem Dd.laid (x : Dd P w H h) (k : ∀ b u, h.get? b = some u → h'.get? b = some u) (hp : h.objs.size ≤ a) (new : gr P w (upd H a o) h' a o) : Dd P w (upd H a o) h' := fun b u e => by
 have hn := x.fresh hp
 by_cases hb : b = a
 · subst hb; rw [zD] at e; cases e; exact new
 · rw [zP hb] at e
   exact (x b u e).stay (fun c v _ q => k c v q) (fun c q => by rw [zP (zV q hn)]; exact q) fun c xs q => by rw [zP (zV q hn)]; exact q
end
def Rd (H : Hp) (a : Addr) (u : HO) : Prop := H a = some u ∨ ∃ o, H a = some (.Mu o u)
theorem Rd.of {H : Hp} {a : Addr} {u : HO} (h : H a = some u) : Rd H a u := .inl h
theorem Rd.ok {P : Program} {w : World} {H : Hp} {h : Heap} {a : Addr} {u : HO} (r : Rd H a u) (x : Dd P w H h) : gr P w H h a u := by
 rcases r with r | ⟨o, r⟩
 · exact x a u r
 · obtain ⟨_, q⟩ := x a _ r
   exact q
def Mut : Option HO → Prop
 | some (.lst _) => True
 | some (.dK _) => True
 | some (.dT _) => True
 | some (.set _ _) => True
 | some (.ins _ _ _) => True
 | some (.ext _) => True
 | _ => False
section
variable {P : Program} {w : World} {H : Hp} {h h' : Heap} {x e : Addr} {o' : HO}
theorem Dd.write (ok : Dd P w H h) (mu : Mut (H x)) (he : e = x ∨ H e = some (.own x)) (k : ∀ b u, b ≠ e → h.get? b = some u → h'.get? b = some u) (heo : ∃ u, h'.get? e = some u)
   (new : gr P w (upd H x o') h' x o') : Dd P w (upd H x o') h' := fun b u q => by
 have adH : ∀ c y, H c = some (.own y) → c ≠ x := fun c y r z => by subst z; rw [r] at mu; exact mu
 have aoM : ∀ c xs, H c = some (.tup xs) → c ≠ x := fun c xs r z => by subst z; rw [r] at mu; exact mu
 by_cases hb : b = x
 · subst hb; rw [zD] at q; cases q; exact new
 · rw [zP hb] at q
   by_cases hbe : b = e
   · have q' : H b = some (.own x) := by
       rcases he with z | z
       · exact absurd (hbe.trans z) hb
       · rw [hbe]; exact z
     rw [q] at q'; cases q'
     obtain ⟨v, hv⟩ := heo
     exact ⟨v, by rw [hbe]; exact hv⟩
   · refine (ok b u q).stay (fun c v hc r => k c v ?_ r) (fun c r => by rw [zP (adH c b r)]; exact r) fun c xs r => by rw [zP (aoM c xs r)]; exact r
     rcases hc with rfl | hc
     · exact hbe
     · rintro rfl
       rcases he with z | z
       · exact adH c b hc z
       · rw [hc] at z; cases z; exact hb rfl
end
structure Un (fs ex : List Addr) (H H' : Hp) (h h' : Heap) : Prop where
 keep : ∀ b o, h.get? b = some o → H b = none → b ∉ fs → b ∉ ex → h'.get? b = some o
 slot : ∀ b o, h.get? b = some o → H b = none → b ∈ fs → b ∉ ex → ∃ sl, h'.get? b = some { o with slots := sl }
 free : ∀ b o, h.get? b = some o → H b = none → b ∉ ex → H' b = none
 there : ∀ b o, h.get? b = some o → b ∉ ex → ∃ o', h'.get? b = some o'
 tups : ∀ b xs, H b = some (.tup xs) → H' b = some (.tup xs)
 pX : ∀ b o u, H b = some (.Mu o u) → H' b = some (.Mu o u)
 qQ : ∀ b ps, H b = some (.XH ps) → ∃ more, H' b = some (.XH (ps ++ more))
section
variable {fs fs' ex ex' : List Addr} {H H1 H2 : Hp} {h h1 h2 h' : Heap} {a x e : Addr} {o : HO}
theorem Un.any (u : Un fs ex H H1 h h1) {b : Addr} {ob : Obj} (q : h.get? b = some ob) (n : H b = none) (hx : b ∉ ex) : ∃ sl, h1.get? b = some { ob with slots := sl } := by
 by_cases hb : b ∈ fs
 · exact u.slot b ob q n hb hx
 · exact ⟨ob.slots, u.keep b ob q n hb hx⟩
theorem Un.trans (a : Un fs ex H H1 h h1) (b : Un fs ex H1 H2 h1 h2) : Un fs ex H H2 h h2 where
 keep := fun c ob q n hc hx => b.keep c ob (a.keep c ob q n hc hx) (a.free c ob q n hx) hc hx
 slot := fun c ob q n hc hx => by
   obtain ⟨sl, e1⟩ := a.slot c ob q n hc hx
   obtain ⟨sl', e2⟩ := b.slot c _ e1 (a.free c ob q n hx) hc hx
   exact ⟨sl', e2⟩
 free := fun c ob q n hx => by
   obtain ⟨o', e1⟩ := a.there c ob q hx
   exact b.free c o' e1 (a.free c ob q n hx) hx
 there := fun c ob q hx => by
   obtain ⟨o', e1⟩ := a.there c ob q hx
   exact b.there c o' e1 hx
 tups := fun c xs q => b.tups c xs (a.tups c xs q)
 pX := fun c ob xs q => b.pX c ob xs (a.pX c ob xs q)
 qQ := fun c ps q => by
   obtain ⟨m1, e1⟩ := a.qQ c ps q
   obtain ⟨m2, e2⟩ := b.qQ c _ e1
   exact ⟨m1 ++ m2, by rw [e2, Array.append_assoc]⟩
theorem Un.kept (k : ∀ b u, h.get? b = some u → h'.get? b = some u) : Un fs ex H H h h' :=
 ⟨fun b ob q _ _ _ => k b ob q, fun b ob q _ _ _ => ⟨ob.slots, k b ob q⟩, fun _ _ _ n _ => n, fun b ob q _ => ⟨ob, k b ob q⟩, fun _ _ q => q, fun _ _ _ q => q, fun _ ps q => ⟨#[], by rw [q]; simp⟩⟩
theorem Un.refl : Un fs ex H H h h := Un.kept fun _ _ q => q
theorem Un.laid (k : ∀ b u, h.get? b = some u → h'.get? b = some u) (hp : h.objs.size ≤ a) (hn : H a = none) : Un fs ex H (upd H a o) h h' where
 keep := fun b u q _ _ _ => k b u q
 slot := fun b u q _ _ _ => ⟨u.slots, k b u q⟩
 free := fun b u q n _ => by rw [zP (Nat.ne_of_lt (Nat.lt_of_lt_of_le (Heap.lt_size q) hp))]; exact n
 there := fun b u q _ => ⟨u, k b u q⟩
 tups := fun b xs q => by rw [zP (zV q hn)]; exact q
 pX := fun b u xs q => by rw [zP (zV q hn)]; exact q
 qQ := fun b ps q => ⟨#[], by rw [zP (zV q hn), q]; simp⟩
theorem Un.write (mu : Mut (H x)) (he : e = x ∨ H e = some (.own x)) (k : ∀ b u, b ≠ e → h.get? b = some u → h'.get? b = some u) (heo : ∃ u, h'.get? e = some u) : Un fs ex H (upd H x o) h h' := by
 have hx : ∀ b, H b = none → b ≠ x := fun b n z => by subst z; rw [n] at mu; exact mu
 have hb : ∀ b, H b = none → b ≠ e := fun b n z => by
   subst z
   rcases he with r | r
   · exact hx b n r
   · rw [n] at r; cases r
 have hm : ∀ b u, H b = some u → ¬ Mut (some u) → b ≠ x := fun b u q nm z => by subst z; rw [q] at mu; exact nm mu
 refine ⟨fun b u q n _ _ => k b u (hb b n) q, fun b u q n _ _ => ⟨u.slots, k b u (hb b n) q⟩, fun b u q n _ => by rw [zP (hx b n)]; exact n, fun b u q _ => ?_,
   fun b xs q => by rw [zP (hm b _ q fun z => z)]; exact q, fun b u xs q => by rw [zP (hm b _ q fun z => z)]; exact q, fun b ps q => ⟨#[], by rw [zP (hm b _ q fun z => z), q]; simp⟩⟩
 by_cases hbe : b = e
 · subst hbe; exact heo
 · exact ⟨u, k b u hbe q⟩
theorem Un.mono (u : Un fs ex H H1 h h1) (hs : ∀ b ∈ fs, b ∈ fs') (hx : ∀ b ∈ ex, b ∈ ex') : Un fs' ex' H H1 h h1 :=
 ⟨fun b ob q n hb he => u.keep b ob q n (fun z => hb (hs b z)) fun z => he (hx b z), fun _ _ q n _ he => u.any q n fun z => he (hx _ z), fun b ob q n he => u.free b ob q n fun z => he (hx b z), fun b ob q he => u.there b ob q fun z => he (hx b z), u.tups, u.pX, u.qQ⟩
end
def trk (h : Heap) (H : Hp) : List Addr := (List.range h.objs.size).filter fun a => (H a).isSome
def Ks (h : Heap) (H : Hp) : Heap := PySem.W.hideAll h (trk h H)
theorem S6 (h : Heap) (H : Hp) : (Ks h H).objs.size = h.objs.size := PySem.W.hideAll_size _ _
theorem UJ {h : Heap} {H : Hp} {b : Addr} {o : Obj} (e : h.get? b = some o) (n : H b = none) : (Ks h H).get? b = some o :=
 PySem.W.hideAll_get _ e fun hm => by
   have q : (H b).isSome = true := (List.mem_filter.mp hm).2
   rw [n] at q; simp at q
theorem XJ {h : Heap} {H : Hp} {b : Addr} {o : Obj} (e : (Ks h H).get? b = some o) : h.get? b = some o ∧ H b = none := by
 have e' : h.get? b = some o := PySem.W.of_hideAll (trk h H) e
 refine ⟨e', ?_⟩
 cases q : H b with
 | none => rfl
 | some x =>
   have hm : b ∈ trk h H := List.mem_filter.mpr ⟨List.mem_range.mpr (Heap.lt_size e'), by simp [q]⟩
   have z : (Ks h H).get? b = none := PySem.W.hideAll_none (trk h H) hm
   rw [z] at e; cases e
def XM (g h : Heap) (L : Addr) : List (Addr × Obj) := (List.range h.objs.size).filterMap fun a => if a = L ∨ (g.get? a).isSome = true then none else (h.get? a).map fun o => (a, o)
def rest (g h : Heap) (L d : Addr) : List (Addr × Obj) := (XM g h L).filter fun p => decide (p.1 ≠ d)
end L2
namespace L2
open PySem PySem.Spec PyProof.Rows
structure Mod (K : PySem.W.Frag) (mg : Str → Option Value) (base : Heap) : Prop where
 Xw : K.In base
 glob : base.Ns mainGlobals mg
 blt : ∃ mb, base.Ns builtinsNs mb ∧ ∀ x : Str, x ≠ "__name__" → mb x = bootBuiltins x
 nolimit : base.NoLimit
structure Cx where
 prog : Program
 w : World
 K : PySem.W.Frag
 mg : Str → Option Value
 base : Heap
 A : Around
 N : List Str
 s₀ : Shared
 H₀ : Hp
 env : Env
 outer : List Env
 stack : List Env
 ex : List Addr
 fn : Str → Bool
 calm : Bool
 pn : List (Addr × Obj)
 xe : Value → Shared → Prop
def frs (l : List Env) : List Addr := l.filterMap (·.frame)
abbrev Cx.fs (X : Cx) : List Addr := frs X.outer
def Vis (sc : Scope) (x : Str) : Prop := sc.names.lookup x = some .local ∨ sc.names.lookup x = some .cell ∨ sc.names.lookup x = some .free
def Loc (sc : Scope) (x : Str) : Prop := sc.names.lookup x = some .local ∨ sc.names.lookup x = some .cell
def Look (env : Env) (h : Heap) (m : Str → Option Value) (x : Str) (u : Value) : Prop :=
 (env.kindOf x = some .local ∧ m x = some u) ∨ ((env.kindOf x = some .cell ∨ env.kindOf x = some .free) ∧ ∃ c, env.cells.lookup x = some c ∧ h.IsCell c (some u))
structure Cx.Ok (X : Cx) : Prop where
 mod : Mod X.K X.mg X.base
 kind : X.env.scope.kind = .function
 glob : X.env.globals = mainGlobals
 blt : X.env.builtins = builtinsNs
 above : X.s₀.heap.objs.size ≤ X.env.locals
 inj : ∀ x y c, X.env.cells.lookup x = some c → X.env.cells.lookup y = some c → x = y
 has : ∀ x, (X.env.kindOf x = some .cell ∨ X.env.kindOf x = some .free) → ∃ c, X.env.cells.lookup x = some c
 cab : ∀ x c, X.fn x = true → X.env.cells.lookup x = some c → X.s₀.heap.objs.size ≤ c
 hd : X.calm = true → X.A.handled = none
 frames : X.A.frames = some X.stack
 stk : X.stack = X.outer ∨ (X.stack = X.env :: X.outer ∧ X.env.frame = some X.env.locals)
 exf : ∀ b ∈ X.ex, b ≠ X.env.locals ∧ ∀ x c, X.env.cells.lookup x = some c → c ≠ b
 bs : ∀ b o, X.base.get? b = some o → X.s₀.heap.get? b = some o ∧ X.H₀ b = none
 UL : X.base.objs.size ≤ X.s₀.heap.objs.size
 S7 : ∀ b o, X.base.get? b = some o → b ∉ X.ex
 UT : ∀ b ∈ X.ex, b ∉ X.fs
 wz : X.s₀.heap.FunFrames X.base X.outer
 XN : ∀ b ∈ X.fs, X.H₀ b = none
structure Inv (X : Cx) (pins : List (Addr × Obj)) (σ : List (Option V)) (H : Hp) (s : Shared) : Prop where
 ok : X.Ok
 os : s.os = X.s₀.os
 bare : AllBare s.gens
 base : Un X.fs X.ex X.H₀ H X.s₀.heap s.heap
 loc : ∃ m, s.heap.Ns X.env.locals m ∧ ∀ (i : Nat) (x : Str) (v : V), X.N[i]? = some x → σ[i]? = some (some v) → Vis X.env.scope x → ∃ u, RelV v u ∧ Look X.env s.heap m x u
 cell : ∀ x c, X.env.cells.lookup x = some c → ∃ v, s.heap.IsCell c v
 free : H X.env.locals = none
 kY : ∀ x c, X.env.cells.lookup x = some c → H c = none
 pin : ∀ p ∈ X.pn ++ pins, s.heap.get? p.1 = some p.2 ∧ H p.1 = none ∧ p.1 ≠ X.env.locals ∧ p.1 ∉ X.fs ∧ ∀ v, p.2.data ≠ .cell v
 hok : Dd X.prog X.w H s.heap
 len : σ.length = X.N.length
section
variable {X : Cx} {pins : List (Addr × Obj)} {σ : List (Option V)} {H H' : Hp} {s : Shared} {h' : Heap}
theorem Cx.Ok.aoO (ok : X.Ok) {b : Addr} {o : Obj} (e : X.base.get? b = some o) : b ∉ X.fs := fun hb => by
 have := (ok.wz.mem hb).1
 rw [e] at this; cases this
theorem Inv.bs (I : Inv X pins σ H s) : ∀ b o, X.base.get? b = some o → s.heap.get? b = some o ∧ H b = none := fun b o e =>
 ⟨I.base.keep b o (I.ok.bs b o e).1 (I.ok.bs b o e).2 (I.ok.aoO e) (I.ok.S7 b o e), I.base.free b o (I.ok.bs b o e).1 (I.ok.bs b o e).2 (I.ok.S7 b o e)⟩
theorem Inv.bk (I : Inv X pins σ H s) : ∀ b o, X.base.get? b = some o → s.heap.get? b = some o := fun b o e => (I.bs b o e).1
theorem Inv.mod (I : Inv X pins σ H s) : Mod X.K X.mg X.base := I.ok.mod
theorem Inv.Ew (I : Inv X pins σ H s) : X.K.In s.heap := I.ok.mod.Xw.keeps I.bk
theorem Inv.nolimit (I : Inv X pins σ H s) : s.heap.NoLimit := I.ok.mod.nolimit.keeps I.bk
theorem Inv.fr (I : Inv X pins σ H s) : ∃ m, Fr X.base X.env.locals s.heap m :=
 let ⟨m, hn, _⟩ := I.loc
 ⟨m, hn, I.bk, Nat.le_trans I.ok.UL I.ok.above⟩
theorem Inv.lt (I : Inv X pins σ H s) : X.env.locals < s.heap.objs.size := let ⟨_, hn, _⟩ := I.loc; hn.lt
theorem Inv.sz (I : Inv X pins σ H s) : X.s₀.heap.objs.size ≤ s.heap.objs.size := Nat.le_trans I.ok.above (Nat.le_of_lt I.lt)
theorem Inv.XQ (I : Inv X pins σ H s) {a : Addr} (h : s.heap.objs.size ≤ a) : a ∉ X.fs := fun hb => by
 obtain ⟨_, o, ho, _⟩ := I.ok.wz.mem hb
 exact absurd (Nat.lt_of_lt_of_le (Heap.lt_size ho) (Nat.le_trans I.sz h)) (Nat.lt_irrefl _)
theorem Inv.cne (I : Inv X pins σ H s) : ∀ x c, X.env.cells.lookup x = some c → c ≠ X.env.locals := fun x c e z => by
 obtain ⟨v, o, ho, hd⟩ := I.cell x c e
 obtain ⟨m, ⟨o', es, ep, ho', hd', _⟩, _⟩ := I.loc
 rw [z, ho'] at ho; cases ho; rw [hd'] at hd; cases hd
theorem Inv.wz (I : Inv X pins σ H s) : s.heap.FunFrames X.base X.outer := by
 have all : ∀ (l : List Env), (∀ b ∈ frs l, b ∈ X.fs) → X.s₀.heap.FunFrames X.base l → s.heap.FunFrames X.base l := by
   intro l
   induction l with
   | nil => intro _ _; trivial
   | cons env r ih =>
     intro hs hl
     obtain ⟨hk, ⟨L, o, hf, hn, ho, hd⟩, hr⟩ := hl
     have hL : L ∈ X.fs := hs L (by unfold frs; rw [List.filterMap_cons, hf]; exact List.mem_cons_self)
     obtain ⟨sl, e⟩ := I.base.slot L o ho (I.ok.XN L hL) hL fun z => I.ok.UT L z hL
     exact ⟨hk, ⟨L, _, hf, hn, e, hd⟩, ih (fun b hb => hs b (by unfold frs; rw [List.filterMap_cons, hf]; exact List.mem_cons_of_mem _ hb)) hr⟩
 exact all X.outer (fun _ hb => hb) I.ok.wz
theorem Inv.stack (I : Inv X pins σ H s) : s.heap.FunFrames X.base X.stack := by
 rcases I.ok.stk with e | ⟨e, hf⟩
 · rw [e]; exact I.wz
 · rw [e]
   obtain ⟨m, hn, _⟩ := I.loc
   refine .cons (by rw [I.ok.kind]; decide) hf hn ?_ I.wz
   exact Heap.get?_none_of_le (Nat.le_trans I.ok.UL I.ok.above)
theorem Inv.sZ (I : Inv X pins σ H s) : ∀ b ∈ frs X.stack, b ∈ X.env.locals :: X.fs := fun b hb => by
 rcases I.ok.stk with e | ⟨e, hf⟩
 · rw [e] at hb; exact List.mem_cons_of_mem _ hb
 · rw [e] at hb
   unfold frs at hb
   rw [List.filterMap_cons, hf] at hb
   exact hb
theorem Inv.Ku (I : Inv X pins σ H s) : ∀ b ∈ frs X.stack, H b = none := fun b hb => by
 rcases List.mem_cons.mp (I.sZ b hb) with e | hb
 · rw [e]; exact I.free
 · obtain ⟨_, o, ho, _⟩ := I.ok.wz.mem hb
   exact I.base.free b o ho (I.ok.XN b hb) fun z => I.ok.UT b z hb
theorem Inv.step {g' : Array GenState} {t' : Nat} {d' : Drawn} {ch : List Addr} (I : Inv X pins σ H s)
   (hch : ∀ b ∈ ch, (b ∈ X.ex ∨ X.s₀.heap.objs.size ≤ b) ∧ b ≠ X.env.locals ∧ (∀ x c, X.env.cells.lookup x = some c → c ≠ b) ∧ ∀ p ∈ X.pn ++ pins, p.1 ≠ b)
   (keep : ∀ b o, b ≠ X.env.locals → b ∉ X.fs → b ∉ ch → s.heap.get? b = some o → H b = none → h'.get? b = some o)
   (slot : ∀ b o, b ≠ X.env.locals → b ∈ X.fs → b ∉ ch → s.heap.get? b = some o → H b = none → ∃ sl, h'.get? b = some { o with slots := sl }) (free : ∀ b o, b ∉ ch → s.heap.get? b = some o → H b = none → H' b = none)
   (there : ∀ b o, b ∉ ch → s.heap.get? b = some o → ∃ o', h'.get? b = some o')
   (tups : ∀ b xs, H b = some (.tup xs) → H' b = some (.tup xs)) (pX : ∀ b o u, H b = some (.Mu o u) → H' b = some (.Mu o u)) (qQ : ∀ b ps, H b = some (.XH ps) → ∃ more, H' b = some (.XH (ps ++ more)))
   (ns : ∀ m, s.heap.Ns X.env.locals m → h'.Ns X.env.locals m) (hok : Dd X.prog X.w H' h') (hg : AllBare g') :
   Inv X pins σ H' { s with heap := h', gens := g', drawn := d', toks := t' } := by
 have neL : ∀ b o, X.s₀.heap.get? b = some o → b ≠ X.env.locals := fun b o e => Nat.ne_of_lt (Nat.lt_of_lt_of_le (Heap.lt_size e) I.ok.above)
 have neC : ∀ b o, X.s₀.heap.get? b = some o → b ∉ X.ex → b ∉ ch := fun b o e hx hb => by
   rcases (hch b hb).1 with z | z
   · exact hx z
   · exact absurd (Nat.lt_of_lt_of_le (Heap.lt_size e) z) (Nat.lt_irrefl _)
 have cellK : ∀ x c, X.env.cells.lookup x = some c → ∀ v, s.heap.IsCell c v → h'.IsCell c v := fun x c e v ⟨o, ho, hd⟩ => by
   have nch : c ∉ ch := fun z => (hch c z).2.2.1 x c e rfl
   by_cases hc : c ∈ X.fs
   · obtain ⟨sl, q⟩ := slot c o (I.cne x c e) hc nch ho (I.kY x c e)
     exact ⟨_, q, hd⟩
   · exact ⟨o, keep c o (I.cne x c e) hc nch ho (I.kY x c e), hd⟩
 refine ⟨I.ok, I.os, hg, ⟨fun b o e n hb hx => ?_, fun b o e n hb hx => ?_, fun b o e n hx => ?_, fun b o e hx => ?_, fun b xs e => tups b xs (I.base.tups b xs e), fun b o xs e => pX b o xs (I.base.pX b o xs e), fun b ps e => ?_⟩, ?_, fun x c e => ?_, ?_, fun x c e => ?_, fun p hp => ?_, hok, I.len⟩
 · exact keep b o (neL b o e) hb (neC b o e hx) (I.base.keep b o e n hb hx) (I.base.free b o e n hx)
 · obtain ⟨sl, e1⟩ := I.base.slot b o e n hb hx
   obtain ⟨sl', e2⟩ := slot b _ (neL b o e) hb (neC b o e hx) e1 (I.base.free b o e n hx)
   exact ⟨sl', e2⟩
 · obtain ⟨o', e1⟩ := I.base.there b o e hx
   exact free b o' (neC b o e hx) e1 (I.base.free b o e n hx)
 · obtain ⟨o', e1⟩ := I.base.there b o e hx
   exact there b o' (neC b o e hx) e1
 · obtain ⟨m1, e1⟩ := I.base.qQ b ps e
   obtain ⟨m2, e2⟩ := qQ b _ e1
   exact ⟨m1 ++ m2, by rw [e2, Array.append_assoc]⟩
 · obtain ⟨m, hn, hl⟩ := I.loc
   refine ⟨m, ns m hn, fun i x v e1 e2 e3 => ?_⟩
   obtain ⟨u, r, l⟩ := hl i x v e1 e2 e3
   refine ⟨u, r, ?_⟩
   rcases l with l | ⟨k, c, e, z⟩
   · exact .inl l
   · exact .inr ⟨k, c, e, cellK x c e _ z⟩
 · obtain ⟨v, z⟩ := I.cell x c e
   exact ⟨v, cellK x c e v z⟩
 · obtain ⟨m, ⟨o, _, _, ho, _⟩, _⟩ := I.loc
   exact free _ o (fun z => (hch _ z).2.1 rfl) ho I.free
 · obtain ⟨v, o, ho, hd⟩ := I.cell x c e
   exact free c o (fun z => (hch c z).2.2.1 x c e rfl) ho (I.kY x c e)
 · obtain ⟨e, n, ne, nf, d⟩ := I.pin p hp
   have nch : p.1 ∉ ch := fun z => (hch p.1 z).2.2.2 p hp rfl
   exact ⟨keep p.1 p.2 ne nf nch e n, free p.1 p.2 nch e n, ne, nf, d⟩
theorem Inv.un {t' : Nat} (I : Inv X pins σ H s) (u : Un X.fs [] H H' s.heap h') (hok : Dd X.prog X.w H' h') : Inv X pins σ H' { s with heap := h', toks := t' } := by
 obtain ⟨m, ⟨o, es, ep, ho, r⟩, _⟩ := id I.loc
 obtain ⟨sl, hL⟩ := u.any ho I.free (by simp)
 exact I.step (g' := s.gens) (d' := s.drawn) (ch := []) (fun _ z => nomatch z) (fun b o _ hb _ e n => u.keep b o e n hb (by simp)) (fun b o _ hb _ e n => u.slot b o e n hb (by simp)) (fun b o _ e n => u.free b o e n (by simp)) (fun b o _ e => u.there b o e (by simp)) u.tups u.pX u.qQ (fun m' hm => by
   obtain ⟨o', es', ep', ho', r'⟩ := hm
   rw [ho] at ho'; cases ho'
   exact ⟨_, es', ep', hL, r'⟩) hok I.bare
theorem Inv.call {g' : Array GenState} {t' : Nat} {d' : Drawn} {ch : List Addr} (I : Inv X pins σ H s) (u : Un (frs X.stack) ch H H' s.heap h') (hok : Dd X.prog X.w H' h') (hg : AllBare g')
   (hch : ∀ b ∈ ch, (b ∈ X.ex ∨ X.s₀.heap.objs.size ≤ b) ∧ b ≠ X.env.locals ∧ (∀ x c, X.env.cells.lookup x = some c → c ≠ b) ∧ ∀ p ∈ X.pn ++ pins, p.1 ≠ b) :
   Inv X pins σ H' { s with heap := h', gens := g', drawn := d', toks := t' } := by
 obtain ⟨m, ⟨o, es, ep, ho, r⟩, _⟩ := id I.loc
 obtain ⟨sl, hL⟩ := u.any ho I.free fun z => (hch _ z).2.1 rfl
 exact I.step (ch := ch) hch (fun b o hL hb hc e n => u.keep b o e n (fun z => (List.mem_cons.mp (I.sZ b z)).elim hL hb) hc) (fun b o _ _ hc e n => u.any e n hc) (fun b o hc e n => u.free b o e n hc) (fun b o hc e => u.there b o e hc) u.tups u.pX u.qQ (fun m' hm => by
   obtain ⟨o', es', ep', ho', r'⟩ := hm
   rw [ho] at ho'; cases ho'
   exact ⟨_, es', ep', hL, r'⟩) hok hg
theorem Inv.turned {t' : Nat} {it : Addr} (I : Inv X pins σ H s) (k : ∀ b o, b ≠ it → s.heap.get? b = some o → h'.get? b = some o) (hn : H it = none) (hL : it ≠ X.env.locals)
   (h1 : it ∈ X.ex ∨ X.s₀.heap.objs.size ≤ it) (h2 : ∀ x c, X.env.cells.lookup x = some c → c ≠ it) (h3 : ∀ p ∈ X.pn ++ pins, p.1 ≠ it) : Inv X pins σ H { s with heap := h', toks := t' } := by
 have nit : ∀ b u, H b = some u → b ≠ it := fun b u e z => by rw [z, hn] at e; cases e
 refine I.step (g' := s.gens) (d' := s.drawn) (ch := [it]) (fun b hb => ?_) (fun b o _ _ hc e _ => k b o (fun z => hc (by simp [z])) e) (fun b o _ _ hc e _ => ⟨o.slots, k b o (fun z => hc (by simp [z])) e⟩) (fun _ _ _ _ n => n)
   (fun b o hc e => ⟨o, k b o (fun z => hc (by simp [z])) e⟩) (fun _ _ e => e) (fun _ _ _ e => e) (fun b ps e => ⟨#[], by rw [e]; simp⟩) (fun m hm => ?_) (fun b u e => ?_) I.bare
 · have e : b = it := by simpa using hb
   subst e
   exact ⟨h1, hL, h2, h3⟩
 · obtain ⟨o, es, ep, ho, r⟩ := hm
   exact ⟨o, es, ep, k _ o (Ne.symm hL) ho, r⟩
 · refine (I.hok b u e).stay (fun c v hc q => k c v ?_ q) (fun _ q => q) fun _ _ q => q
   rcases hc with z | z
   · rw [z]; exact nit b u e
   · exact nit c _ z
theorem Inv.tok (I : Inv X pins σ H s) (t : Nat) : Inv X pins σ H { s with toks := t } := I.un (h' := s.heap) (t' := t) Un.refl I.hok
theorem Inv.kept {t' : Nat} (I : Inv X pins σ H s) (k : ∀ b u, s.heap.get? b = some u → h'.get? b = some u) : Inv X pins σ H { s with heap := h', toks := t' } := I.un (Un.kept k) (I.hok.kept k)
theorem Inv.laid {a : Addr} {o : HO} {t' : Nat} (I : Inv X pins σ H s) (k : ∀ b u, s.heap.get? b = some u → h'.get? b = some u) (hp : s.heap.objs.size ≤ a) (new : gr X.prog X.w (upd H a o) h' a o) :
   Inv X pins σ (upd H a o) { s with heap := h', toks := t' } := I.un (Un.laid k hp (I.hok.fresh hp)) (I.hok.laid k hp new)
theorem Inv.write {x e : Addr} {o : HO} {t' : Nat} (I : Inv X pins σ H s) (mu : Mut (H x)) (he : e = x ∨ H e = some (.own x)) (k : ∀ b u, b ≠ e → s.heap.get? b = some u → h'.get? b = some u) (heo : ∃ u, h'.get? e = some u)
   (new : gr X.prog X.w (upd H x o) h' x o) : Inv X pins σ (upd H x o) { s with heap := h', toks := t' } := I.un (Un.write mu he k heo) (I.hok.write mu he k heo new)
theorem Inv.weak {σ' : List (Option V)} (I : Inv X pins σ H s) (hl : σ'.length = σ.length) (w : ∀ (i : Nat) v, σ'[i]? = some (some v) → σ[i]? = some (some v)) : Inv X pins σ' H s :=
 ⟨I.ok, I.os, I.bare, I.base, let ⟨m, hn, hl'⟩ := I.loc; ⟨m, hn, fun i x v e1 e2 e3 => hl' i x v e1 (w i v e2) e3⟩, I.cell, I.free, I.kY, I.pin, I.hok, hl.trans I.len⟩
theorem Inv.iB {JH : List (Addr × Obj)} (I : Inv X pins σ H s) (h : ∀ p ∈ JH, s.heap.get? p.1 = some p.2 ∧ H p.1 = none ∧ p.1 ≠ X.env.locals ∧ p.1 ∉ X.fs ∧ ∀ v, p.2.data ≠ .cell v) : Inv X JH σ H s :=
 ⟨I.ok, I.os, I.bare, I.base, I.loc, I.cell, I.free, I.kY, fun p hp => (List.mem_append.mp hp).elim (fun z => I.pin p (List.mem_append_left _ z)) (h p), I.hok, I.len⟩
theorem Mz {N : List Str} (hN : N.Nodup) {i j : Nat} {x : Str} (a : N[i]? = some x) (b : N[j]? = some x) : i = j := by
 obtain ⟨h1, e1⟩ := List.getElem?_eq_some_iff.mp a
 obtain ⟨h2, e2⟩ := List.getElem?_eq_some_iff.mp b
 exact (List.getElem_inj hN).mp (e1.trans e2.symm)
theorem Aq {M : Model} {A : Around} {E : Value → Shared → Prop} {i : Nat} {x : Str} {v : V} {u : Value} {Q : Unit → Shared → Prop} (I : Inv X pins σ H s) (hN : X.N.Nodup) (hi : X.N[i]? = some x) (hx : Loc X.env.scope x) (r : RelV v u)
   (h : ∀ s', Inv X pins (σ.set i (some v)) H s' → (∃ a, Heap.SameBut a s.heap s'.heap ∧ (a = X.env.locals ∨ X.env.cells.lookup x = some a)) → Q () s') (hf : X.fn x = true ∨ X.env.scope.names.lookup x = some .local := by first | exact .inl rfl | exact .inr rfl | assumption) : wpAny M A (storeName X.env x u) Q E s := by
 obtain ⟨m, hn, hl⟩ := id I.loc
 have hcls : (X.env.scope.kind == .class || (X.env.scope.kind == .module && X.env.locals != X.env.globals)) = false := by rw [I.ok.kind]; rfl
 have adL : i < σ.length := by rw [I.len]; exact (List.getElem?_eq_some_iff.mp hi).1
 have cne := I.cne
 have tracked : ∀ {a : Addr} {h' : Heap}, (∃ o, s.heap.get? a = some o ∧ H a = none) → Heap.SameBut a s.heap h' → Dd X.prog X.w H h' := fun {a h'} ha hs b ob e => by
   obtain ⟨_, _, hfree⟩ := ha
   refine (I.hok b ob e).stay (fun c w' hc q => (hs.2 c ?_).trans q) (fun _ q => q) fun _ _ q => q
   rintro rfl
   rcases hc with rfl | hc
   · rw [hfree] at e; cases e
   · rw [hfree] at hc; cases hc
 rcases hx with hk | hk
 · refine wpAny_storeName_local hk hn (fun h' hn' hs => ?_) hcls
   obtain ⟨oL, _, _, hoL, _⟩ := id hn
   refine h _ ⟨I.ok, I.os, I.bare, ⟨fun b o e n hb hx => ?_, fun b o e n hb hx => ?_, I.base.free, fun b o e hx => ?_, I.base.tups, I.base.pX, I.base.qQ⟩, ⟨_, hn', fun j y v' e1 e2 e3 => ?_⟩, fun y c e => ?_, I.free, I.kY, fun p hp => ?_, tracked ⟨oL, hoL, I.free⟩ hs, by simpa using I.len⟩ ⟨_, hs, .inl rfl⟩
   · exact (hs.2 b (Nat.ne_of_lt (Nat.lt_of_lt_of_le (Heap.lt_size e) I.ok.above))).trans (I.base.keep b o e n hb hx)
   · obtain ⟨sl, e1⟩ := I.base.slot b o e n hb hx
     exact ⟨sl, (hs.2 b (Nat.ne_of_lt (Nat.lt_of_lt_of_le (Heap.lt_size e) I.ok.above))).trans e1⟩
   · obtain ⟨o', e1⟩ := I.base.there b o e hx
     exact ⟨o', (hs.2 b (Nat.ne_of_lt (Nat.lt_of_lt_of_le (Heap.lt_size e) I.ok.above))).trans e1⟩
   · by_cases hj : j = i
     · subst hj
       rw [hi] at e1; cases e1
       rw [List.getElem?_set_self adL] at e2
       cases e2
       exact ⟨u, r, .inl ⟨hk, by simp⟩⟩
     · rw [List.getElem?_set_ne (Ne.symm hj)] at e2
       obtain ⟨u', r', q⟩ := hl j y v' e1 e2 e3
       refine ⟨u', r', ?_⟩
       rcases q with ⟨k, e⟩ | ⟨k, c, e, z⟩
       · refine .inl ⟨k, ?_⟩
         have : y ≠ x := fun e => hj (Mz hN e1 (e ▸ hi))
         simp [this, e]
       · exact .inr ⟨k, c, e, z.sameBut hs (cne y c e)⟩
   · obtain ⟨w', z⟩ := I.cell y c e
     exact ⟨w', z.sameBut hs (cne y c e)⟩
   · obtain ⟨e, n, ne, nf, d⟩ := I.pin p hp
     exact ⟨(hs.2 p.1 ne).trans e, n, ne, nf, d⟩
 · have hfn : X.fn x = true := by
     rcases hf with z | z
     · exact z
     · rw [z] at hk; cases hk
   obtain ⟨c, hc⟩ := I.ok.has x (.inl hk)
   obtain ⟨w', z⟩ := I.cell x c hc
   refine wpAny_storeName_cell I.ok.kind hk hc z (fun h' hc' hs => ?_)
   obtain ⟨oc, hoc, aoP⟩ := id z
   refine h { s with heap := h' } ⟨I.ok, I.os, I.bare, ⟨fun b o e n hb hx => ?_, fun b o e n hb hx => ?_, I.base.free, fun b o e hx => ?_, I.base.tups, I.base.pX, I.base.qQ⟩, ⟨m, hn.sameBut hs (Ne.symm (cne x c hc)), fun j y v' e1 e2 e3 => ?_⟩, fun y c' e => ?_, I.free, I.kY, fun p hp => ?_, tracked ⟨oc, hoc, I.kY x c hc⟩ hs, by simpa using I.len⟩ ⟨c, hs, .inr hc⟩
   · exact (hs.2 b (Nat.ne_of_lt (Nat.lt_of_lt_of_le (Heap.lt_size e) (I.ok.cab x c hfn hc)))).trans (I.base.keep b o e n hb hx)
   · obtain ⟨sl, e1⟩ := I.base.slot b o e n hb hx
     exact ⟨sl, (hs.2 b (Nat.ne_of_lt (Nat.lt_of_lt_of_le (Heap.lt_size e) (I.ok.cab x c hfn hc)))).trans e1⟩
   · obtain ⟨o', e1⟩ := I.base.there b o e hx
     exact ⟨o', (hs.2 b (Nat.ne_of_lt (Nat.lt_of_lt_of_le (Heap.lt_size e) (I.ok.cab x c hfn hc)))).trans e1⟩
   · by_cases hj : j = i
     · subst hj
       rw [hi] at e1; cases e1
       rw [List.getElem?_set_self adL] at e2
       cases e2
       exact ⟨u, r, .inr ⟨.inl hk, c, hc, hc'⟩⟩
     · rw [List.getElem?_set_ne (Ne.symm hj)] at e2
       obtain ⟨u', r', q⟩ := hl j y v' e1 e2 e3
       refine ⟨u', r', ?_⟩
       rcases q with q | ⟨k, c', e, z'⟩
       · exact .inl q
       · refine .inr ⟨k, c', e, z'.sameBut hs ?_⟩
         rintro rfl
         exact hj (Mz hN e1 (I.ok.inj _ _ _ e hc ▸ hi))
   · by_cases hcc : c' = c
     · subst hcc; exact ⟨_, hc'⟩
     · obtain ⟨w2, z2⟩ := I.cell y c' e
       exact ⟨w2, z2.sameBut hs hcc⟩
   · obtain ⟨e, n, ne, nf, d⟩ := I.pin p hp
     refine ⟨(hs.2 p.1 ?_).trans e, n, ne, nf, d⟩
     intro q
     rw [q, hoc] at e
     have q' : oc = p.2 := Option.some.inj e
     exact d w' (by rw [← q']; exact aoP)
theorem tu {M : Model} {A : Around} {E : Value → Shared → Prop} {i : Nat} {x : Str} {v : V} {u : Value} {Q : Unit → Shared → Prop} (I : Inv X pins σ H s) (hN : X.N.Nodup) (hi : X.N[i]? = some x) (hx : Loc X.env.scope x) (r : RelV v u)
   (h : ∀ s', Inv X pins (σ.set i (some v)) H s' → Q () s') (hf : X.fn x = true ∨ X.env.scope.names.lookup x = some .local := by first | exact .inl rfl | exact .inr rfl | assumption) : wpAny M A (storeName X.env x u) Q E s :=
 Aq I hN hi hx r (fun s' I' _ => h s' I') hf
theorem Inv.call' {s' : Shared} {ch : List Addr} (I : Inv X pins σ H s) (ho : s'.os = s.os) (u : Un (frs X.stack) ch H H' s.heap s'.heap) (hok : Dd X.prog X.w H' s'.heap) (hg : AllBare s'.gens)
   (hch : ∀ b ∈ ch, (b ∈ X.ex ∨ X.s₀.heap.objs.size ≤ b) ∧ b ≠ X.env.locals ∧ (∀ x c, X.env.cells.lookup x = some c → c ≠ b) ∧ ∀ p ∈ X.pn ++ pins, p.1 ≠ b) : Inv X pins σ H' s' := by
 obtain ⟨h', g', d', t', o'⟩ := s'
 have e : o' = s.os := ho
 subst e
 exact I.call (g' := g') (t' := t') (d' := d') u hok hg hch
end
abbrev XK := Value → Option Addr → Hp → Prop
abbrev St := List (Option V)
abbrev VK := V → Hp → Prop
abbrev TE := St → Hp → VK → Prop
abbrev TT := St → Hp → (Bool → Hp → Prop) → Prop
abbrev TA := St → Hp → (List V → Hp → Prop) → Prop
structure Ends where
 nx : St → Hp → Prop
 rt : VK
 bk : St → Hp → Prop := fun _ _ => False
 ct : St → Hp → Prop := fun _ _ => False
abbrev TS := Ends → St → Hp → Prop
def EP (X : Cx) (pins : List (Addr × Obj)) (σ : St) (Q : VK) (u : Value) (s' : Shared) : Prop := ∃ v H', Inv X pins σ H' s' ∧ RelV v u ∧ Q v H'
def TP (X : Cx) (pins : List (Addr × Obj)) (σ : St) (Q : Bool → Hp → Prop) (b : Bool) (s' : Shared) : Prop := ∃ H', Inv X pins σ H' s' ∧ Q b H'
def AP (X : Cx) (pins : List (Addr × Obj)) (σ : St) (Q : List V → Hp → Prop) (us : List Value) (s' : Shared) : Prop := ∃ vs H', Inv X pins σ H' s' ∧ Vals vs us ∧ Q vs H'
def SP (X : Cx) (pins : List (Addr × Obj)) (D : Ends) (f : Flow) (s' : Shared) : Prop :=
 match f with
 | .next => ∃ σ' H', Inv X pins σ' H' s' ∧ D.nx σ' H'
 | .brk => ∃ σ' H', Inv X pins σ' H' s' ∧ D.bk σ' H'
 | .cont => ∃ σ' H', Inv X pins σ' H' s' ∧ D.ct σ' H'
 | .ret u => ∃ v σ' H', Inv X pins σ' H' s' ∧ RelV v u ∧ D.rt v H'
def PE (X : Cx) (e : Expr) (t : TE) : Prop :=
 ∀ (pins : List (Addr × Obj)) (s : Shared) (σ : St) (H : Hp) (Q : VK), Inv X pins σ H s → t σ H Q → wpAny (model X.prog X.w) X.A (eval e X.env) (EP X pins σ Q) X.xe s
def PT (X : Cx) (e : Expr) (t : TT) : Prop :=
 ∀ (pins : List (Addr × Obj)) (s : Shared) (σ : St) (H : Hp) (Q : Bool → Hp → Prop), Inv X pins σ H s → t σ H Q → wpAny (model X.prog X.w) X.A (isTrue e X.env (eval e X.env)) (TP X pins σ Q) X.xe s
def PW (X : Cx) (e : Expr) (t : TT) : Prop :=
 ∀ (whole : Sem Value) (pins : List (Addr × Obj)) (s : Shared) (σ : St) (H : Hp) (Q : Bool → Hp → Prop), Inv X pins σ H s → t σ H Q → wpAny (model X.prog X.w) X.A (isTrue e X.env whole) (TP X pins σ Q) X.xe s
theorem PW.pt {X : Cx} {e : Expr} {t : TT} (h : PW X e t) : PT X e t := h _
def PA (X : Cx) (es : List Expr) (t : TA) : Prop :=
 ∀ (pos : Pos) (pins : List (Addr × Obj)) (s : Shared) (σ : St) (H : Hp) (Q : List V → Hp → Prop), Inv X pins σ H s → t σ H Q → wpAny (model X.prog X.w) X.A (spliced (backTo pos (starEach es X.env))) (AP X pins σ Q) X.xe s
def PS (X : Cx) (st : Stmt) (t : TS) : Prop :=
 ∀ (pins : List (Addr × Obj)) (s : Shared) (σ : St) (H : Hp) (D : Ends), Inv X pins σ H s → t D σ H → wpAny (model X.prog X.w) X.A (exec st X.env) (SP X pins D) X.xe s
def jG (X : Cx) (st : List Stmt) (t : TS) : Prop :=
 ∀ (pins : List (Addr × Obj)) (s : Shared) (σ : St) (H : Hp) (D : Ends), Inv X pins σ H s → t D σ H → wpAny (model X.prog X.w) X.A (execs st X.env) (SP X pins D) X.xe s
theorem eY {α : Type} {t : Sem α} {Q Q' : α → Shared → Prop} {M : Model} {A : Around} {E : Value → Shared → Prop} {s : Shared} (h : wpAny M A t Q E s) (hQ : ∀ a s, Q a s → Q' a s) : wpAny M A t Q' E s := wpAny_mono h hQ fun _ _ x => x
end L2
namespace L2
open PySem PySem.Spec PyProof.Rows
section
variable {X : Cx}
def UW (i : Nat) : TE := fun σ H Q => ∃ v, σ[i]? = some (some v) ∧ Q v H
def tC (v : V) : TE := fun _ H Q => Q v H
theorem aay {i : Nat} {x : Str} {pos : Pos} (hN : X.N[i]? = some x) (hv : Vis X.env.scope x) (hd : (x == ("__debug__" : Str)) = false := by decide) (hcd : (x == ("__classdict__" : Str)) = false := by decide) : PE X (.Name x pos) (UW i) := by
 intro pins s σ H Q I h
 obtain ⟨v, e, h⟩ := h
 obtain ⟨m, hn, hl⟩ := I.loc
 obtain ⟨u, r, l⟩ := hl i x v hN e hv
 have fin : EP X pins σ Q u s := ⟨v, H, I, r, h⟩
 rcases l with ⟨hk, hm⟩ | ⟨hk, c, hc, hcell⟩
 · exact wpAny_Name (wpAny_loadName_local I.ok.kind hk hn hm fin) hd
 · rcases hk with hk | hk
   · exact wpAny_Name (wpAny_loadName_cell I.ok.kind hk hc hcell fin) hd
   · exact wpAny_Name (wpAny_loadName_free I.ok.kind hk hc hcell fin hcd) hd
theorem zE {i j pos} : PE X (.Constant (.int i) j pos) (tC (.int i)) := fun _ _ _ H _ I h => wpAny_Constant_int ⟨.int i, H, I.tok _, ⟨_, rfl⟩, h⟩
theorem xK {b j pos} : PE X (.Constant (.bool b) j pos) (tC (.bl b)) := fun _ _ _ H _ I h => Constant_bool ⟨.bl b, H, I, rfl, h⟩
theorem yS {j pos} : PE X (.Constant .none j pos) (tC .non) := fun _ _ _ H _ I h => Constant_none ⟨.non, H, I, rfl, h⟩
theorem zJ {x j pos} : PE X (.Constant (.str x) j pos) (tC (.str x)) := fun _ _ _ H _ I h => Calls.Constant_str ⟨.str x, H, I.tok _, ⟨_, rfl⟩, h⟩
def Gl (X : Cx) (x : Str) : Prop := X.env.kindOf x = some .globalImplicit
theorem mG {E : Value → Shared → Prop} {pins : List (Addr × Obj)} {s : Shared} {σ : St} {H : Hp} {x : Str} {u : Value} {pos : Pos} {Q : Value → Shared → Prop} (I : Inv X pins σ H s) (hg : Gl X x) (hm : X.mg x = some u) (h : Q u s)
   (hd : (x == ("__debug__" : Str)) = false := by decide) : wpAny (model X.prog X.w) X.A (eval (.Name x pos) X.env) Q E s :=
 Calls.Name_function_global I.ok.kind hg (Calls.loadGlobal_global (by rw [I.ok.glob]; exact I.mod.glob.keeps I.bk) hm h) hd
theorem Fo {E : Value → Shared → Prop} {pins : List (Addr × Obj)} {s : Shared} {σ : St} {H : Hp} {x : Str} {u : Value} {pos : Pos} {Q : Value → Shared → Prop} (I : Inv X pins σ H s) (hg : Gl X x) (hm : X.mg x = none) (hv : bootBuiltins x = some u) (h : Q u s)
   (hn : x ≠ "__name__" := by decide) (hd : (x == ("__debug__" : Str)) = false := by decide) : wpAny (model X.prog X.w) X.A (eval (.Name x pos) X.env) Q E s := by
 obtain ⟨mb, h1, h2⟩ := I.mod.blt
 exact Calls.Name_function_global I.ok.kind hg (Calls.loadGlobal_builtin (by rw [I.ok.glob]; exact I.mod.glob.keeps I.bk) hm (by rw [I.ok.blt]; exact h1.keeps I.bk) ((h2 x hn).trans hv) h) hd
theorem XR {x : Str} {v : V} {u : Value} {pos : Pos} (hg : Gl X x) (hm : X.mg x = some u) (r : RelV v u) (hd : (x == ("__debug__" : Str)) = false := by decide) : PE X (.Name x pos) (tC v) :=
 fun _ _ _ H _ I h => mG I hg hm ⟨v, H, I, r, h⟩ hd
theorem xO {x : Str} {v : V} {u : Value} {pos : Pos} (hg : Gl X x) (hm : X.mg x = none) (hv : bootBuiltins x = some u) (r : RelV v u) (hn : x ≠ "__name__" := by decide) (hd : (x == ("__debug__" : Str)) = false := by decide) : PE X (.Name x pos) (tC v) :=
 fun _ _ _ H _ I h => Fo I hg hm hv ⟨v, H, I, r, h⟩ hn hd
variable {a b : Expr} {ta tb : TE} {pos : Pos}
def PC (X : Cx) (op : CmpOp) (a b : Expr) (t : TE) : Prop :=
 ∀ (pins : List (Addr × Obj)) (s : Shared) (σ : St) (H : Hp) (Q : VK), Inv X pins σ H s → t σ H Q →
   wpAny (model X.prog X.w) X.A (eval a X.env) (fun v s₁ => wpAny (model X.prog X.w) X.A (eval b X.env) (fun u s₂ => wpAny (model X.prog X.w) X.A (compareOp op v u) (EP X pins σ Q) X.xe s₂) X.xe s₁) X.xe s
def tB (t : TE) : TT := fun σ H Q => t σ H fun x H1 => ∃ c, x = .bl c ∧ Q c H1
theorem yA {e : Expr} {t : TE} (h : PE X e t) (he : ∀ whole, isTrue e X.env whole = (do let v ← whole; standAt e.pos; holding [v] (truthy v)) := by intro _; rfl) : PT X e (tB t) := by
 intro pins s σ H Q I hw
 refine isTrue_plain (eY (h pins s σ H _ I hw) fun v s1 ⟨x, H1, I1, r1, q1⟩ => ?_) (he _)
 obtain ⟨d, rfl, q⟩ := q1
 cases r1
 exact wpAny_truthy_bool ⟨H1, I1, q⟩
variable {tA tB' : TT} {rest : List Expr}
def aoQ (t u : TT) : TT := fun σ H Q => t σ H fun c H1 => if c = true then u σ H1 Q else Q false H1
def tOr (t u : TT) : TT := fun σ H Q => t σ H fun c H1 => if c = true then Q true H1 else u σ H1 Q
def aoR (t : TT) : TT := fun σ H Q => t σ H fun c H1 => Q (!c) H1
theorem oR (ha : PT X a tA) : PW X (.BoolOp .And [a] pos) tA := by
 intro wh pins s σ H Q I h
 refine isTrue_and (eY (ha pins s σ H Q I h) fun c s1 e => ?_)
 cases c with
 | true => exact isTrue_and_nil e
 | false => exact e
theorem xC (ha : PT X a tA) : PW X (.BoolOp .Or [a] pos) tA := by
 intro wh pins s σ H Q I h
 refine isTrue_or (eY (ha pins s σ H Q I h) fun c s1 e => ?_)
 cases c with
 | false => exact isTrue_or_nil e
 | true => exact e
theorem pB (ha : PT X a tA) (hb : PW X (.BoolOp .And (b :: rest) pos) tB') : PW X (.BoolOp .And (a :: b :: rest) pos) (aoQ tA tB') := by
 intro wh pins s σ H Q I h
 refine isTrue_and (eY (ha pins s σ H _ I h) fun c s1 ⟨H1, I1, q1⟩ => ?_)
 cases c with
 | true => exact hb wh pins s1 σ H1 Q I1 q1
 | false => exact ⟨H1, I1, q1⟩
theorem xJ (ha : PT X a tA) (hb : PW X (.BoolOp .Or (b :: rest) pos) tB') : PW X (.BoolOp .Or (a :: b :: rest) pos) (tOr tA tB') := by
 intro wh pins s σ H Q I h
 refine isTrue_or (eY (ha pins s σ H _ I h) fun c s1 ⟨H1, I1, q1⟩ => ?_)
 cases c with
 | true => exact ⟨H1, I1, q1⟩
 | false => exact hb wh pins s1 σ H1 Q I1 q1
theorem yM (ha : PT X a tA) : PT X (.UnaryOp .Not a pos) (aoR tA) := by
 intro pins s σ H Q I h
 exact isTrue_not (ha pins s σ H (fun c H1 => Q (!c) H1) I h)
def adM (ta tb : TE) : TE := fun σ H Q => ta σ H fun x H1 => ∃ c, x = .bl c ∧ if c = true then tb σ H1 Q else Q (.bl false) H1
theorem wA {op} {t : TE} (h : PE X a t) : PE X (.BoolOp op [a] pos) t := fun pins s σ H Q I hw => BoolOp_one (h pins s σ H Q I hw)
theorem tD (ha : PE X a ta) (hb : PE X (.BoolOp .And (b :: rest) pos) tb) : PE X (.BoolOp .And (a :: b :: rest) pos) (adM ta tb) := by
 intro pins s σ H Q I h
 refine BoolOp_and (eY (ha pins s σ H _ I h) fun v s1 ⟨x, H1, I1, r1, q1⟩ => ?_)
 obtain ⟨c, rfl, q1⟩ := q1
 cases r1
 refine wpAny_truthy_bool ?_
 cases c with
 | true => exact hb pins s1 σ H1 Q I1 q1
 | false => exact ⟨.bl false, H1, I1, rfl, q1⟩
def tIf (t : TT) (ta tb : TE) : TE := fun σ H Q => t σ H fun c H1 => if c = true then ta σ H1 Q else tb σ H1 Q
theorem xD {c : Expr} (hc : PT X c tA) (ha : PE X a ta) (hb : PE X b tb) : PE X (.IfExp c a b pos) (tIf tA ta tb) := by
 intro pins s σ H Q I h
 refine wpAny_IfExp (eY (hc pins s σ H _ I h) fun d s1 ⟨H1, I1, q1⟩ => ?_)
 cases d with
 | true => exact ha pins s1 σ H1 Q I1 q1
 | false => exact hb pins s1 σ H1 Q I1 q1
end
end L2
namespace L2
open PySem PySem.Spec PyProof.Rows
def bz (K : PySem.W.Frag) (H : Hp) (a : Addr) (xs : List V) : Prop :=
 Rd H a (.lst xs) ∨
   ∃ (o : Obj) (its : Array Value) (n : Nat), K.lookup a = some o ∧ o.cls = .type "list" ∧ o.dict = none ∧ o.data = .seq its n ∧ its.size ≤ sizeLine ∧ Vals xs its.toList
def lG (K : PySem.W.Frag) (H : Hp) (a : Addr) (xs : List V) : Prop :=
 Rd H a (.tup xs) ∨
   ∃ (o : Obj) (its : Array Value) (n : Nat), K.lookup a = some o ∧ o.cls = .type "tuple" ∧ o.data = .seq its n ∧ its.size ≤ sizeLine ∧ Vals xs its.toList
def aoS : Value → Option V
 | .none => some .non
 | .bool b => some (.bl b)
 | .int i _ => some (.int i)
 | .str x _ => some (.str x)
 | .bytes b _ => some (.Uv b)
 | .float b _ => some (.flt b)
 | .ref a => some (.ref a)
 | .type n => some (.ty n)
 | _ => none
theorem RelV.abs {x : V} {u : Value} (r : RelV x u) : aoS u = some x := by
 cases x with
 | non => cases r; rfl
 | bl _ => cases r; rfl
 | int _ => obtain ⟨t, rfl⟩ := r; rfl
 | str _ => obtain ⟨t, rfl⟩ := r; rfl
 | Uv _ => obtain ⟨t, rfl⟩ := r; rfl
 | flt _ => obtain ⟨t, rfl⟩ := r; rfl
 | ref _ => cases r; rfl
 | ty _ => cases r; rfl
theorem RelV.inj {x y : V} {u : Value} (r : RelV x u) (q : RelV y u) : x = y := Option.some.inj (r.abs.symm.trans q.abs)
theorem Vals.inj : ∀ {xs ys : List V} {us : List Value}, Vals xs us → Vals ys us → xs = ys
 | _, _, _, .nil, .nil => rfl
 | _, _, _, .cons r t, .cons r' t' => by rw [r.inj r', Vals.inj t t']
section
variable {X : Cx} {pins : List (Addr × Obj)} {σ : St} {H : Hp} {s : Shared} {a : Addr} {xs ys : List V}
theorem bz.of {K : PySem.W.Frag} (h : H a = some (.lst xs)) : bz K H a xs := .inl (.inl h)
theorem lG.of {K : PySem.W.Frag} (h : H a = some (.tup xs)) : lG K H a xs := .inl (.inl h)
theorem Inv.list (I : Inv X pins σ H s) (h : bz X.K H a xs) : ∃ its : List Value, Vals xs its ∧ PlainL s.heap a its.toArray ∧ xs.length ≤ sizeLine := by
 rcases h with h | ⟨o, its, n, hk, hc, hd, hs, hz, r⟩
 · obtain ⟨z, its, n, r, e⟩ := h.ok I.hok
   exact ⟨its, r, ⟨_, n, e, rfl, rfl, rfl⟩, z⟩
 · refine ⟨its.toList, r, ⟨o, n, I.Ew a o hk, hc, hd, by simpa using hs⟩, ?_⟩
   have e := r.length
   simp only [Array.length_toList] at e
   omega
theorem Inv.tuple (I : Inv X pins σ H s) (h : lG X.K H a xs) : ∃ its : List Value, Vals xs its ∧ IsTup s.heap a its.toArray ∧ xs.length ≤ sizeLine := by
 rcases h with h | ⟨o, its, n, hk, hc, hs, hz, r⟩
 · obtain ⟨z, its, r, p⟩ := h.ok I.hok
   exact ⟨its, r, p, z⟩
 · refine ⟨its.toList, r, ⟨o, I.Ew a o hk, hc, n, by simpa using hs⟩, ?_⟩
   have e := r.length
   simp only [Array.length_toList] at e
   omega
theorem Inv.Fp (I : Inv X pins σ H s) (h : bz X.K H a xs) (h' : bz X.K H a ys) : xs = ys := by
 obtain ⟨its, r, ⟨o, n, e, _, _, d⟩, _⟩ := I.list h
 obtain ⟨its', r', ⟨o', n', e', _, _, d'⟩, _⟩ := I.list h'
 rw [e] at e'; cases e'
 rw [d] at d'
 injection d' with d1 _
 have : its = its' := by simpa using congrArg Array.toList d1
 subst this
 exact r.inj r'
theorem Inv.S8 (I : Inv X pins σ H s) (h : lG X.K H a xs) (h' : lG X.K H a ys) : xs = ys := by
 obtain ⟨its, r, ⟨o, e, _, n, d⟩, _⟩ := I.tuple h
 obtain ⟨its', r', ⟨o', e', _, n', d'⟩, _⟩ := I.tuple h'
 rw [e] at e'; cases e'
 rw [d] at d'
 injection d' with d1 _
 have : its = its' := by simpa using congrArg Array.toList d1
 subst this
 exact r.inj r'
end
abbrev Cx.wish (X : Cx) (E : Value → Shared → Prop) : Cx := { X with xe := E }
abbrev Cx.Mv (X : Cx) : Cx := X.wish fun _ _ => False
theorem Cx.Ok.wish {X : Cx} (ok : X.Ok) (E : Value → Shared → Prop) : (X.wish E).Ok :=
 ⟨ok.mod, ok.kind, ok.glob, ok.blt, ok.above, ok.inj, ok.has, ok.cab, ok.hd, ok.frames, ok.stk, ok.exf, ok.bs, ok.UL, ok.S7, ok.UT, ok.wz, ok.XN⟩
theorem Cx.Ok.lH {X : Cx} {E : Value → Shared → Prop} (ok : (X.wish E).Ok) : X.Ok :=
 ⟨ok.mod, ok.kind, ok.glob, ok.blt, ok.above, ok.inj, ok.has, ok.cab, ok.hd, ok.frames, ok.stk, ok.exf, ok.bs, ok.UL, ok.S7, ok.UT, ok.wz, ok.XN⟩
section
variable {X : Cx} {pins : List (Addr × Obj)} {σ : St} {H : Hp} {s : Shared} {E : Value → Shared → Prop}
theorem Inv.wish (I : Inv X pins σ H s) (E : Value → Shared → Prop) : Inv (X.wish E) pins σ H s := ⟨I.ok.wish E, I.os, I.bare, I.base, I.loc, I.cell, I.free, I.kY, I.pin, I.hok, I.len⟩
theorem Inv.lH (I : Inv (X.wish E) pins σ H s) : Inv X pins σ H s := ⟨I.ok.lH, I.os, I.bare, I.base, I.loc, I.cell, I.free, I.kY, I.pin, I.hok, I.len⟩
theorem SP.lH {D : Ends} {f : Flow} {s' : Shared} (h : SP (X.wish E) pins D f s') : SP X pins D f s' := by
 cases f with
 | next => obtain ⟨σ', H', I, q⟩ := h; exact ⟨σ', H', I.lH, q⟩
 | brk => obtain ⟨σ', H', I, q⟩ := h; exact ⟨σ', H', I.lH, q⟩
 | cont => obtain ⟨σ', H', I, q⟩ := h; exact ⟨σ', H', I.lH, q⟩
 | ret u => obtain ⟨v, σ', H', I, r, q⟩ := h; exact ⟨v, σ', H', I.lH, r, q⟩
theorem PE.Mv {e : Expr} {t : TE} (h : PE X.Mv e t) : PE X e t := fun pins s σ H Q I hw =>
 wpAny_mono (h pins s σ H Q (I.wish _) hw) (fun _ _ ⟨v, H', I', r, q⟩ => ⟨v, H', I'.lH, r, q⟩) fun _ _ z => False.elim z
theorem PT.Mv {e : Expr} {t : TT} (h : PT X.Mv e t) : PT X e t := fun pins s σ H Q I hw =>
 wpAny_mono (h pins s σ H Q (I.wish _) hw) (fun _ _ ⟨H', I', q⟩ => ⟨H', I'.lH, q⟩) fun _ _ z => False.elim z
theorem jG.Mv {st : List Stmt} {t : TS} (h : jG X.Mv st t) : jG X st t := fun pins s σ H D I hw =>
 wpAny_mono (h pins s σ H D (I.wish _) hw) (fun _ _ q => q.lH) fun _ _ z => False.elim z
end
section
variable {X : Cx} {st : Stmt} {rest : List Stmt} {t u : TS} {e : Expr} {te : TE} {pos : Pos}
def adN : TS := fun D σ H => D.nx σ H
def U0 (t u : TS) : TS := fun D σ H => t { D with nx := u D } σ H
theorem zO : jG X [] adN := fun _ _ σ H _ I h => wpAny_execs_nil ⟨σ, H, I, h⟩
theorem zC (h1 : PS X st t) (h2 : jG X rest u) : jG X (st :: rest) (U0 t u) := by
 intro pins s σ H D I h
 refine wpAny_execs_cons (eY (h1 pins s σ H { D with nx := u D } I h) fun f s1 q => ?_)
 cases f with
 | next =>
   obtain ⟨σ', H', I', q⟩ := q
   exact h2 pins s1 σ' H' D I' q
 | ret v => exact q
 | brk => exact q
 | cont => exact q
theorem zF (h1 : PS X st t) : jG X [st] t := by
 intro pins s σ H D I h
 refine wpAny_execs_cons (eY (h1 pins s σ H D I h) fun f s1 q => ?_)
 cases f with
 | next => exact wpAny_execs_nil q
 | ret v => exact q
 | brk => exact q
 | cont => exact q
theorem Inv.quiet {pins : List (Addr × Obj)} {σ : St} {H : Hp} {s : Shared} (I : Inv X pins σ H s) : interactive X.env = false := by simp [interactive, I.ok.kind]
def adO (te : TE) : TS := fun D σ H => te σ H fun _ H1 => D.nx σ H1
theorem uQ (he : PE X e te) (hs : swapsWith e none pos.line X.env = pure false := by rfl) : PS X (.Expr e pos) (adO te) := by
 intro pins s σ H D I h
 exact wpAny_Expr_any (eY (he pins s σ H _ I h) fun v s1 ⟨x, H1, I1, r1, q1⟩ => ⟨σ, H1, I1, q1⟩) I.quiet hs
def aaz (te : TE) : TS := fun D σ H => te σ H D.rt
theorem zG (he : PE X e te) : PS X (.Return (some e) pos) (aaz te) := by
 intro pins s σ H D I h
 exact wpAny_Return_some (eY (he pins s σ H _ I h) fun v s1 ⟨x, H1, I1, r1, q1⟩ => ⟨x, σ, H1, I1, r1, q1⟩)
def aaA (c : TT) (t u : TS) : TS := fun D σ H => c σ H fun b H1 => if b = true then t D σ H1 else u D σ H1
theorem yB {c : Expr} {a b : List Stmt} {tc : TT} (hc : PT X c tc) (ha : jG X a t) (hb : jG X b u) : PS X (.If c a b pos) (aaA tc t u) := by
 intro pins s σ H D I h
 refine wpAny_If (eY (hc pins s σ H _ I h) fun d s1 ⟨H1, I1, q1⟩ => ?_)
 cases d with
 | true => exact ha pins s1 σ H1 D I1 q1
 | false => exact hb pins s1 σ H1 D I1 q1
end
abbrev TG := V → St → Hp → (St → Hp → Prop) → Prop
abbrev TGs := List V → St → Hp → (St → Hp → Prop) → Prop
def PG (X : Cx) (target : Expr) (t : TG) : Prop :=
 ∀ (pins : List (Addr × Obj)) (s : Shared) (σ : St) (H : Hp) (v : V) (u : Value) (Q : St → Hp → Prop), Inv X pins σ H s → RelV v u → t v σ H Q →
   wpAny (model X.prog X.w) X.A (assign target X.env u) (fun _ s' => ∃ σ' H', Inv X pins σ' H' s' ∧ Q σ' H') X.xe s
def tE (X : Cx) (ts : List Expr) (t : TGs) : Prop :=
 ∀ (pins : List (Addr × Obj)) (s : Shared) (σ : St) (H : Hp) (vs : List V) (us : List Value) (Q : St → Hp → Prop), Inv X pins σ H s → Vals vs us → t vs σ H Q →
   wpAny (model X.prog X.w) X.A (assignInOrder ((assignEach ts X.env).map (·.2)) us) (fun _ s' => ∃ σ' H', Inv X pins σ' H' s' ∧ Q σ' H') X.xe s
abbrev aoT := V → V → V → Hp → (Hp → Prop) → Prop
def iV (X : Cx) (t : aoT) : Prop :=
 ∀ (pins : List (Addr × Obj)) (s : Shared) (σ : St) (H : Hp) (o i v : V) (ov iv u : Value) (Q : Hp → Prop), Inv X pins σ H s → RelV o ov → RelV i iv → RelV v u → t o i v H Q →
   wpAny (model X.prog X.w) X.A (setItem ov iv u) (fun _ s' => ∃ H', Inv X pins σ H' s' ∧ Q H') X.xe s
section
variable {X : Cx} {pos : Pos}
def gf (i : Nat) : TG := fun v σ H Q => Q (σ.set i (some v)) H
theorem uR {i : Nat} {x : Str} (hN : X.N.Nodup) (hi : X.N[i]? = some x) (hx : Loc X.env.scope x) (hf : X.fn x = true ∨ X.env.scope.names.lookup x = some .local := by first | exact .inl rfl | exact .inr rfl | assumption) : PG X (.Name x pos) (gf i) := by
 intro pins s σ H v u Q I r h
 exact wpAny_assign_Name (tu I hN hi hx r (fun s' I' => ⟨_, H, I', h⟩) hf)
def adP : TGs := fun vs σ H Q => vs = [] ∧ Q σ H
def U3 (t : TG) (u : TGs) : TGs := fun vs σ H Q => ∃ v r, vs = v :: r ∧ t v σ H fun σ' H' => u r σ' H' Q
theorem Rt : tE X [] adP := by
 intro pins s σ H vs us Q I r h
 obtain ⟨e, h⟩ := h
 subst e
 cases r
 exact assignInOrder_nil ⟨σ, H, I, h⟩
theorem xX {e : Expr} {es : List Expr} {t : TG} {u : TGs} (h1 : PG X e t) (h2 : tE X es u)
   (hs : (assignEach (e :: es) X.env).map (·.2) = assign e X.env :: (assignEach es X.env).map (·.2) := by rfl) : tE X (e :: es) (U3 t u) := by
 intro pins s σ H vs us Q I r h
 obtain ⟨v, vr, e1, h⟩ := h
 subst e1
 cases r with
 | cons r rr =>
   rw [hs]
   refine assignInOrder_cons (eY (h1 pins s σ H _ _ _ I r h) fun _ s1 ⟨σ1, H1, I1, q1⟩ => ?_)
   exact h2 pins s1 σ1 H1 _ _ Q I1 rr q1
def adQ (K : PySem.W.Frag) (n : Nat) (t : TGs) : TG := fun v σ H Q => ∃ a xs, v = .ref a ∧ lG K H a xs ∧ xs.length = n ∧ t xs σ H Q
theorem U4 {es : List Expr} {k : Nat} {t : TGs} {n : Nat} (hc : X.calm = true) (h : tE X es t)
   (hn : (assignEach es X.env).length = n := by rfl) (hst : (assignEach es X.env).findIdx? (·.1) = none := by rfl) : PG X (.Tuple es k pos) (adQ X.K n t) := by
 intro pins s σ H v u Q I r hw
 obtain ⟨a, xs, e1, hq, hl, hw⟩ := hw
 subst e1
 cases r
 obtain ⟨its, rv, ht, hz⟩ := I.tuple hq
 refine assign_Tuple_tuple (I.ok.hd hc) ht (by simp [hn, ← hl, rv.length]) hst fun h' hx => ?_
 have I1 : Inv X pins σ H { s with heap := h' } := I.kept (t' := s.toks) fun b o e => hx b o (Nat.ne_of_lt (Heap.lt_size e)) e
 exact h pins _ σ H xs _ Q I1 (by simpa using rv) hw
def S9 (te : TE) (g : TG) : TS := fun D σ H => te σ H fun x H1 => g x σ H1 D.nx
theorem zY {i : Nat} {x : Str} {e : Expr} {te : TE} {pos' : Pos} (hN : X.N.Nodup) (hi : X.N[i]? = some x) (hx : Loc X.env.scope x) (he : PE X e te) (hs : swapsWith e (some (.Name x pos')) pos.line X.env = pure false := by rfl) (hf : X.fn x = true ∨ X.env.scope.names.lookup x = some .local := by first | exact .inl rfl | exact .inr rfl | assumption) :
   PS X (.Assign [.Name x pos'] e pos) (S9 te (gf i)) := by
 intro pins s σ H D I h
 refine wpAny_Assign_Name (eY (he pins s σ H _ I h) fun v s1 ⟨y, H1, I1, r1, q1⟩ => ?_) hs
 exact tu I1 hN hi hx r1 (fun s2 I2 => ⟨_, H1, I2, q1⟩) hf
end
section
variable {X : Cx} {pos : Pos}
def aaC (c : TT) (tb : TS) : TS := fun D σ H => ∃ W : Nat → St → Hp → Prop, (∃ m, W m σ H) ∧ ∀ m σ H, W m σ H →
 c σ H fun b H1 => if b = true then ∃ N : St → Hp → Prop, (∀ σ' H', N σ' H' → ∃ m', m' < m ∧ W m' σ' H') ∧ tb { D with nx := N, ct := N, bk := D.nx } σ H1 else D.nx σ H1
end
structure It where
 go : Nat → Hp → Prop
 Qg : Nat → Hp → V → Hp → Prop
 stop : Nat → Hp → Prop
def lJ (X : Cx) (pins : List (Addr × Obj)) (H : Hp) (b : Addr) : Prop :=
 H b = none ∧ b ≠ X.env.locals ∧ b ∉ X.fs ∧ (b ∈ X.ex ∨ X.s₀.heap.objs.size ≤ b) ∧ (∀ x c, X.env.cells.lookup x = some c → c ≠ b) ∧ ∀ p ∈ X.pn ++ pins, p.1 ≠ b
theorem Inv.Kv {X : Cx} {pins : List (Addr × Obj)} {σ : St} {H H' : Hp} {s : Shared} {b : Addr} (I : Inv X pins σ H s) (hb : s.heap.objs.size ≤ b) (hn : H' b = none) : lJ X pins H' b := by
 refine ⟨hn, Nat.ne_of_gt (Nat.lt_of_lt_of_le I.lt hb), I.XQ hb, .inr (Nat.le_trans I.sz hb), fun x c e z => ?_, fun p hp z => ?_⟩
 · obtain ⟨v, q⟩ := I.cell x c e
   exact absurd (Nat.lt_of_lt_of_le q.lt (by rw [z]; exact hb)) (Nat.lt_irrefl _)
 · exact absurd (Nat.lt_of_lt_of_le (Heap.lt_size (I.pin p hp).1) (by rw [z]; exact hb)) (Nat.lt_irrefl _)
structure Turn (P : Program) (w : World) (K : PySem.W.Frag) (tg : Expr) (J : It) (fp : List Addr) (it : Addr) (tn : Nat → Heap → Prop) : Prop where
 mem : it ∈ fp
 obj : ∀ i h, tn i h → ∀ b ∈ fp, ∃ o, h.get? b = some o ∧ ∀ v, o.data ≠ .cell v
 keep : ∀ i h h', tn i h → (∀ b ∈ fp, ∀ o, h.get? b = some o → h'.get? b = some o) → tn i h'
 item : ∀ (X : Cx), X.prog = P → X.w = w → X.K = K → X.calm = true → ∀ (i : Nat) (pins : List (Addr × Obj)) (s : Shared) (σ : St) (H : Hp) (E : Value → Shared → Prop), Inv X pins σ H s → (∀ b ∈ fp, lJ X pins H b) → tn i s.heap → J.go i H →
   wpAny (model P w) X.A (pyNext (.ref it)) (fun r s1 => ∃ u, r = some u ∧
     wpAny (model P w) X.A (letOwnedTupleGo tg (.ref it) u) (fun _ s2 => ∃ x H', Inv X pins σ H' s2 ∧ RelV x u ∧ J.Qg i H x H' ∧ tn (i + 1) s2.heap ∧ ∀ b ∈ fp, H' b = none) E s1) E s
 done : ∀ (X : Cx), X.prog = P → X.w = w → X.K = K → X.calm = true → ∀ (i : Nat) (pins : List (Addr × Obj)) (s : Shared) (σ : St) (H : Hp) (E : Value → Shared → Prop), Inv X pins σ H s → (∀ b ∈ fp, lJ X pins H b) → tn i s.heap → J.stop i H →
   wpAny (model P w) X.A (pyNext (.ref it)) (fun r s1 => r = none ∧ Inv X pins σ H s1) E s
 self : ∀ (A : Around) (i : Nat) (s : Shared) (Q : Value → Shared → Prop) (E : Value → Shared → Prop), tn i s.heap → Q (.ref it) s → wpAny (model P w) A (pyIter (.ref it)) Q E s
abbrev TI := St → Hp → (It → Hp → Prop) → Prop
def PIE (X : Cx) (pins : List (Addr × Obj)) (σ : St) (tg : Expr) (R : It → Hp → Prop) (itv : Value) (s2 : Shared) : Prop :=
 ∃ (it : Addr) (fp : List Addr) (tn : Nat → Heap → Prop) (J : It) (H' : Hp), itv = .ref it ∧ Inv X pins σ H' s2 ∧ Turn X.prog X.w X.K tg J fp it tn ∧ tn 0 s2.heap ∧ (∀ b ∈ fp, lJ X pins H' b) ∧ R J H'
def PI (X : Cx) (tg iter : Expr) (wi : TI) : Prop :=
 ∀ (pins : List (Addr × Obj)) (s : Shared) (σ : St) (H : Hp) (R : It → Hp → Prop), Inv X pins σ H s → wi σ H R →
   wpAny (model X.prog X.w) X.A (eval iter X.env) (fun v s1 => wpAny (model X.prog X.w) X.A (pyIter v) (PIE X pins σ tg R) X.xe s1) X.xe s
theorem U5 {M : Model} {A : Around} {E : Value → Shared → Prop} {s : Shared} {tg : Expr} {it : Addr} {u : Value} {o : Obj} {n : String} {vs : Array Value} {Q : Unit → Shared → Prop} (ho : s.heap.get? it = some o) (hc : o.cls = .type n) (hd : o.data = .fields vs)
   (hn : ["enumerate", "zip", "dict_itemiterator", "dict_reverseitemiterator", "odict_iterator", "itertools.zip_longest", "itertools.pairwise"].contains n = false) (hQ : Q () s) : wpAny M A (letOwnedTupleGo tg (.ref it) u) Q E s := by
 unfold letOwnedTupleGo
 cases tg <;> first
   | exact wpAny_pure hQ
   | (cases u <;> first
       | exact wpAny_pure hQ
       | (refine wpAny_bind (wpAny_load ho ?_)
          rw [hc, hd]
          show wpAny M A (if (["enumerate", "zip", "dict_itemiterator", "dict_reverseitemiterator", "odict_iterator", "itertools.zip_longest", "itertools.pairwise"].contains n && vs[0]? == some (rawInt _)) = true then _ else _) Q E s
          rw [if_neg (by intro h; rw [hn, Bool.false_and] at h; cases h)]
          exact wpAny_pure hQ))
def Itl (K : PySem.W.Frag) (a : Addr) : It :=
 ⟨fun i H => ∃ xs x, bz K H a xs ∧ xs[i]? = some x, fun i H x H' => H' = H ∧ ∀ xs, bz K H a xs → xs[i]? = some x, fun i H => ∃ xs, bz K H a xs ∧ xs.length ≤ i⟩
def U6 (lo : Int) (n : Nat) : It := ⟨fun i _ => i < n, fun i H x H' => H' = H ∧ x = .int (lo + i), fun i _ => n ≤ i⟩
theorem Tc {P : Program} {w : World} {K : PySem.W.Frag} {tg : Expr} (a it : Addr) : Turn P w K tg (Itl K a) [it] it (fun i h => h.IsListIter it a i) where
 mem := by simp
 obj := fun i h st b hb => by
   have e : b = it := by simpa using hb
   subst e
   obtain ⟨o, e, c, d⟩ := st
   exact ⟨o, e, fun v z => by rw [d] at z; cases z⟩
 keep := fun i h h' st k => st.at fun o e => k it (by simp) o e
 item := by
   intro X hP hw hK hc i pins s σ H E I hf st hg
   subst hP hw hK
   obtain ⟨xs, x, hq, hx⟩ := hg
   obtain ⟨its, rv, p, hz⟩ := I.list hq
   obtain ⟨u, hu, ru⟩ := rv.get hx
   obtain ⟨f0, f1, f2, f3, f4, f5⟩ := hf it (by simp)
   refine wpAny_pyNext_list_item st p.isList (x := u) (by simpa using hu) fun h' st' sb => ?_
   have I1 : Inv X pins σ H { s with heap := h' } := I.turned (t' := s.toks) (fun b o hb e => (sb.2 b hb).trans e) f0 f1 f3 f4 f5
   obtain ⟨o, e, c, d⟩ := id st'
   exact ⟨u, rfl, U5 (s := { s with heap := h' }) e c d (by decide) ⟨x, H, I1, ru, ⟨rfl, fun ys hy => by rw [I.Fp hy hq]; exact hx⟩, st', fun b hb => (hf b hb).1⟩⟩
 done := by
   intro X hP hw hK hc i pins s σ H E I hf st hg
   subst hP hw hK
   obtain ⟨xs, hq, hx⟩ := hg
   obtain ⟨its, rv, p, hz⟩ := I.list hq
   obtain ⟨f0, f1, f2, f3, f4, f5⟩ := hf it (by simp)
   have hl := rv.length
   exact wpAny_pyNext_list_end (I.ok.hd hc) st p.isList (by simp; omega) fun h' eb => ⟨rfl, I.turned (t' := s.toks) (fun b o hb e => eb b o hb e) f0 f1 f3 f4 f5⟩
 self := fun _ _ _ _ _ st h => wpAny_pyIter_listiter st h
theorem Qh {P : Program} {w : World} {K : PySem.W.Frag} {tg : Expr} (it : Addr) (lo : Int) (n : Nat) : Turn P w K tg (U6 lo n) [it] it (fun i h => IsRangeIter h it (lo + (i : Nat) * 1) ((n : Int) - (i : Nat)) 1) where
 mem := by simp
 obj := fun i h st b hb => by
   have e : b = it := by simpa using hb
   subst e
   exact ⟨_, st, fun v z => by
     have z' : Data.fields _ = Data.cell v := z
     cases z'⟩
 keep := fun i h h' st k => k it (by simp) _ st
 item := by
   intro X hP hw hK hc i pins s σ H E I hf st hg
   subst hP hw hK
   obtain ⟨f0, f1, f2, f3, f4, f5⟩ := hf it (by simp)
   have W := Walks.range (prog := X.prog) (w := X.w) (I.ok.hd hc) it lo 1 n
   refine W.item i s _ _ hg st fun v h' tk hv st' kk => ?_
   obtain ⟨t, rfl⟩ := hv
   have I1 : Inv X pins σ H { s with heap := h', toks := tk } := I.turned (fun b o hb e => kk b o (by simpa using hb) e) f0 f1 f3 f4 f5
   refine ⟨_, rfl, U5 (s := { s with heap := h', toks := tk }) (n := "range_iterator") st' rfl rfl (by decide) ⟨.int (lo + i), H, I1, ⟨t, ?_⟩, ⟨rfl, rfl⟩, st', fun b hb => (hf b hb).1⟩⟩
   rw [Int.mul_one]
 done := by
   intro X hP hw hK hc i pins s σ H E I hf st hg
   subst hP hw hK
   obtain ⟨f0, f1, f2, f3, f4, f5⟩ := hf it (by simp)
   exact wpAny_pyNext_range_end (I.ok.hd hc) st (by have : n ≤ i := hg; omega) fun h' eb => ⟨rfl, I.turned (t' := s.toks) (fun b o hb e => eb b o hb e) f0 f1 f3 f4 f5⟩
 self := fun _ _ _ _ _ st h => wpAny_pyIter_rangeiter st h
end L2
namespace L2
open PySem PySem.Spec PyProof.Rows
section
variable {X : Cx} {tg : Expr}
def adR (K : PySem.W.Frag) (tl : TE) : TI := fun σ H R => tl σ H fun x H1 => ∃ a, x = .ref a ∧ (∃ xs, bz K H1 a xs) ∧ R (Itl K a) H1
theorem oU {l : Expr} {tl : TE} (hl : PE X l tl) : PI X tg l (adR X.K tl) := by
 intro pins s σ H R I h
 refine eY (hl pins s σ H _ I h) fun v s1 ⟨x, H1, I1, r1, q1⟩ => ?_
 obtain ⟨a, e, ⟨xs, hq⟩, q⟩ := q1
 subst e
 cases r1
 obtain ⟨its, rv, p, hz⟩ := I1.list hq
 refine wpAny_pyIter_list p.isList ?_
 refine ⟨s1.heap.objs.size, [s1.heap.objs.size], _, _, H1, rfl, I1.kept (t' := s1.toks) fun b o e => Heap.get?_push_of_some _ e, Tc a _, ⟨_, Heap.get?_push_size _ rfl, rfl, rfl⟩, fun b hb => ?_, q⟩
 have e : b = s1.heap.objs.size := by simpa using hb
 subst e
 exact I1.Kv (Nat.le_refl _) (I1.hok.fresh (Nat.le_refl _))
theorem U7 {pins : List (Addr × Obj)} {σ : St} {H : Hp} {s : Shared} {R : It → Hp → Prop} {E : Value → Shared → Prop} {lo hi : Int} {t u v : Tok} {tk : Nat} (I : Inv X pins σ H s) (h1 : -(2 ^ 62) ≤ lo) (h2 : lo < 2 ^ 62) (h3 : -(2 ^ 62) ≤ hi) (h4 : hi < 2 ^ 62)
   (q : R (U6 lo (hi - lo).toNat) H) : wpAny (model X.prog X.w) X.A (pyIter (.ref s.heap.objs.size)) (PIE X pins σ tg R) E { s with heap := s.heap.push { cls := .type "range", data := .fields #[.int lo t, .int hi u, .int 1 v] }, toks := tk } := by
 refine wpAny_pyIter_range (IsRange.new ..) (small_one h1 h2 h3 h4) ?_
 have I1 : Inv X pins σ H { s with heap := s.heap.push { cls := .type "range", data := .fields #[.int lo t, .int hi u, .int 1 v] }, toks := tk } := I.kept fun b o e => Heap.get?_push_of_some _ e
 refine ⟨(s.heap.push { cls := .type "range", data := .fields #[.int lo t, .int hi u, .int 1 v] }).objs.size, [(s.heap.push { cls := .type "range", data := .fields #[.int lo t, .int hi u, .int 1 v] }).objs.size], _, _, H, rfl,
   I1.kept (t' := tk) fun b o e => Heap.get?_push_of_some _ e, Qh _ lo (hi - lo).toNat, ?_, fun b hb => ?_, q⟩
 · have e1 : lo + ((0 : Nat) : Int) * 1 = lo := by simp
   have e2 : (((hi - lo).toNat : Nat) : Int) - ((0 : Nat) : Int) = Builtin.Range.rangeSize lo hi 1 := by rw [rangeSize_one]; split <;> omega
   show IsRangeIter _ _ (lo + ((0 : Nat) : Int) * 1) ((((hi - lo).toNat : Nat) : Int) - ((0 : Nat) : Int)) 1
   rw [e1, e2]
   exact Heap.get?_push_size _ rfl
 · have e : b = (s.heap.push { cls := .type "range", data := .fields #[.int lo t, .int hi u, .int 1 v] }).objs.size := by simpa using hb
   subst e
   exact I1.Kv (Nat.le_refl _) (I1.hok.fresh (Nat.le_refl _))
def adS (ta : TA) : TI := fun σ H R => ta σ H fun vs H1 => ∃ j : Int, vs = [.int j] ∧ -(2 ^ 62) ≤ j ∧ j < 2 ^ 62 ∧ R (U6 0 j.toNat) H1
theorem JK {a : Expr} {ta : TA} {p pos : Pos} (hg : Gl X "range") (hm : X.mg "range" = none) (ha : PA X [a] ta) (hs : starEach [a] X.env = [(false, eval a X.env)] := by rfl) : PI X tg (.Call (.Name "range" p) [a] [] pos) (adS ta) := by
 intro pins s σ H R I h
 refine Call_ (Fo I hg hm boot_range (PyProof.Rows.callWith_type1 (eY (ha pos pins s σ H _ I h) fun us s1 ⟨vs, H1, I1, r1, q1⟩ => ?_) hs rfl))
 obtain ⟨j, e, q1, q2, q⟩ := q1
 subst e
 cases r1 with
 | cons r rr =>
   cases rr
   obtain ⟨t, rfl⟩ := r
   exact call_range_1 (U7 I1 (by omega) (by omega) q1 q2 (by simpa using q))
def aoU (wi : TI) (g : TG) (tb : TS) : TS := fun D σ H => wi σ H fun J H1 => ∃ W : Nat → Nat → St → Hp → Prop, (∃ m, W 0 m σ H1) ∧ ∀ i m σ H, W i m σ H →
 (J.stop i H ∧ D.nx σ H) ∨ (J.go i H ∧ ∃ N : St → Hp → Prop, (∀ σ' H', N σ' H' → ∃ m', m' < m ∧ W (i + 1) m' σ' H') ∧ ∀ x H', J.Qg i H x H' → g x σ H' fun σ2 H2 => tb { D with nx := N, ct := N, bk := D.nx } σ2 H2)
def tG (fp : List Addr) (h : Heap) : List (Addr × Obj) := fp.filterMap fun b => (h.get? b).map fun o => (b, o)
theorem yX {fp : List Addr} {h : Heap} {b : Addr} {o : Obj} (hb : b ∈ fp) (e : h.get? b = some o) : (b, o) ∈ tG fp h := List.mem_filterMap.mpr ⟨b, hb, by rw [e]; rfl⟩
theorem Td {fp : List Addr} {h : Heap} {p : Addr × Obj} (hp : p ∈ tG fp h) : p.1 ∈ fp ∧ h.get? p.1 = some p.2 := by
 obtain ⟨b, hb, e⟩ := List.mem_filterMap.mp hp
 cases q : h.get? b with
 | none => rw [q] at e; cases e
 | some o =>
   rw [q] at e
   have e' : (b, o) = p := Option.some.inj e
   subst e'
   exact ⟨hb, q⟩
theorem Inv.pinned {pins : List (Addr × Obj)} {σ : St} {H : Hp} {s : Shared} {fp : List Addr} (I : Inv X pins σ H s) (hf : ∀ b ∈ fp, lJ X pins H b) (ho : ∀ b ∈ fp, ∃ o, s.heap.get? b = some o ∧ ∀ v, o.data ≠ .cell v) : Inv X (pins ++ tG fp s.heap) σ H s :=
 I.iB fun p hp => (List.mem_append.mp hp).elim (fun z => I.pin p (List.mem_append_right _ z)) fun z => by
   obtain ⟨hb, e⟩ := Td z
   obtain ⟨f0, f1, f2, _⟩ := hf p.1 hb
   obtain ⟨o, e', d⟩ := ho p.1 hb
   rw [e] at e'; cases e'
   exact ⟨e, f0, f1, f2, d⟩
theorem Inv.Fq {pins pl : List (Addr × Obj)} {σ : St} {H : Hp} {s : Shared} (I : Inv X (pins ++ pl) σ H s) : Inv X pins σ H s := I.iB fun p hp => I.pin p (List.mem_append_right _ (List.mem_append_left _ hp))
theorem aaE {iter : Expr} {body : List Stmt} {wi : TI} {g : TG} {tb : TS} {pos : Pos} (hp : PassesOwn (model X.prog X.w) X.A X.env X.xe) (hc : X.calm = true) (hi : PI X tg iter wi) (hg : PG X tg g) (hb : jG X body tb)
   (hs : ∀ x, foldedSetIterable iter X.env x = pure x := by intro _; rfl) : PS X (.For tg iter body [] pos) (aoU wi g tb) := by
 intro pins s σ H D I h
 refine wpAny_For (eY (hi pins s σ H _ I h) fun v s1 h1 => eY h1 fun itv s2 h2 => ?_) hs
 obtain ⟨it, fp, tn, J, H2, e, I2, T, st2, f2, W, ⟨m0, w0⟩, turn⟩ := h2
 subst e
 have stat : ∀ {H' : Hp}, (∀ b ∈ fp, H' b = none) → ∀ b ∈ fp, lJ X pins H' b := fun hn b hb => ⟨hn b hb, (f2 b hb).2⟩
 refine codeAny_forLoop_any (fun n s' => ∃ i σ' H', Inv X pins σ' H' s' ∧ tn i s'.heap ∧ (∀ b ∈ fp, H' b = none) ∧ W i n σ' H') ?_ m0 ⟨0, σ, H2, I2, st2, fun b hb => (f2 b hb).1, w0⟩
 rintro n s3 ⟨i, σ3, H3, I3, st3, fr3, w3⟩
 rcases turn i n σ3 H3 w3 with ⟨stop, qn⟩ | ⟨go, N, hN, step⟩
 · refine wpAny_passesOwn hp (eY (T.done X rfl rfl rfl hc i pins s3 σ3 H3 X.xe I3 (stat fr3) st3 stop) fun r s4 ⟨hr, I4⟩ => ?_)
   subst hr
   exact wpAny_execs_nil ⟨σ3, H3, I4, qn⟩
 · refine wpAny_passesOwn hp (eY (T.item X rfl rfl rfl hc i pins s3 σ3 H3 X.xe I3 (stat fr3) st3 go) fun r s4 ⟨u, hr, h4⟩ => ?_)
   subst hr
   refine wpAny_passesOwn hp (eY h4 fun _ s5 ⟨x, H5, I5, r5, y5, MF, Xx⟩ => ?_)
   have I5' := I5.pinned (stat Xx) (T.obj _ _ MF)
   refine wpAny_passesOwn hp (eY (hg _ s5 σ3 H5 x u _ I5' r5 (step x H5 y5)) fun _ s6 ⟨σ6, H6, I6, q6⟩ => ?_)
   refine wpAny_passesOwn hp (eY (hb _ s6 σ6 H6 _ I6 q6) fun f s7 q7 => ?_)
   have again : ∀ {σ7 : St} {H7 : Hp}, Inv X (pins ++ tG fp s5.heap) σ7 H7 s7 → N σ7 H7 → ∃ m, m < n ∧ ∃ i σ' H', Inv X pins σ' H' s7 ∧ tn i s7.heap ∧ (∀ b ∈ fp, H' b = none) ∧ W i m σ' H' := fun {σ7 H7} I7 n7 => by
     obtain ⟨m', hm, w7⟩ := hN σ7 H7 n7
     refine ⟨m', hm, i + 1, σ7, H7, I7.Fq, T.keep _ _ _ MF fun b hb o e => (I7.pin (b, o) (List.mem_append_right _ (List.mem_append_right _ (yX hb e)))).1, fun b hb => ?_, w7⟩
     obtain ⟨o, e, d⟩ := T.obj _ _ MF b hb
     exact (I7.pin (b, o) (List.mem_append_right _ (List.mem_append_right _ (yX hb e)))).2.1
   cases f with
   | next => obtain ⟨σ7, H7, I7, n7⟩ := q7; exact again I7 n7
   | cont => obtain ⟨σ7, H7, I7, n7⟩ := q7; exact again I7 n7
   | brk => obtain ⟨σ7, H7, I7, q7⟩ := q7; exact ⟨σ7, H7, I7.Fq, q7⟩
   | ret v => obtain ⟨x7, σ7, H7, I7, r7, q7⟩ := q7; exact ⟨x7, σ7, H7, I7.Fq, r7, q7⟩
end
theorem Te {lo : Int} {n : Nat} {g : TG} {tb : TS} {D : Ends} {σ : St} {H : Hp} (Pv : Nat → St → Hp → Prop) (h0 : Pv 0 σ H)
   (hs : ∀ i σ H, i < n → Pv i σ H → g (.int (lo + i)) σ H fun σ2 H2 => tb { D with nx := Pv (i + 1), ct := Pv (i + 1), bk := D.nx } σ2 H2) (hd : ∀ σ H, Pv n σ H → D.nx σ H) :
   ∃ W : Nat → Nat → St → Hp → Prop, (∃ m, W 0 m σ H) ∧ ∀ i m σ H, W i m σ H →
     ((U6 lo n).stop i H ∧ D.nx σ H) ∨ ((U6 lo n).go i H ∧ ∃ N : St → Hp → Prop, (∀ σ' H', N σ' H' → ∃ m', m' < m ∧ W (i + 1) m' σ' H') ∧ ∀ x H', (U6 lo n).Qg i H x H' → g x σ H' fun σ2 H2 => tb { D with nx := N, ct := N, bk := D.nx } σ2 H2) := by
 refine ⟨fun i m σ H => m = n - i ∧ i ≤ n ∧ Pv i σ H, ⟨n, by simp, Nat.zero_le _, h0⟩, ?_⟩
 rintro i m σ H ⟨rfl, hi, p⟩
 by_cases hlt : i < n
 · refine .inr ⟨hlt, Pv (i + 1), fun σ' H' p' => ⟨n - (i + 1), by omega, rfl, hlt, p'⟩, fun x H' y => ?_⟩
   obtain ⟨e, y⟩ := y
   subst e y
   exact hs i σ _ hlt p
 · have e : i = n := by omega
   subst e
   exact .inl ⟨Nat.le_refl _, hd σ H p⟩
end L2
namespace L2
open PySem PySem.Spec PyProof.Rows
abbrev R2 := V → V → Hp → VK → Prop
def ir (X : Cx) (f : Value → Value → Sem Value) (r : R2) : Prop :=
 ∀ (pins : List (Addr × Obj)) (s : Shared) (σ : St) (H : Hp) (x y : V) (v u : Value) (Q : VK), Inv X pins σ H s → RelV x v → RelV y u → r x y H Q →
   wpAny (model X.prog X.w) X.A (f v u) (EP X pins σ Q) X.xe s
def uT (X : Cx) (f : Value → Sem Value) (r : V → Hp → VK → Prop) : Prop :=
 ∀ (pins : List (Addr × Obj)) (s : Shared) (σ : St) (H : Hp) (x : V) (v : Value) (Q : VK), Inv X pins σ H s → RelV x v → r x H Q →
   wpAny (model X.prog X.w) X.A (f v) (EP X pins σ Q) X.xe s
def bL (X : Cx) (f : Value) (r : List V → Hp → VK → Prop) : Prop :=
 ∀ (pins : List (Addr × Obj)) (s : Shared) (σ : St) (H : Hp) (xs : List V) (us : List Value) (Q : VK), Inv X pins σ H s → Vals xs us → r xs H Q →
   wpAny (model X.prog X.w) X.A (call f us) (EP X pins σ Q) X.xe s
def iW (X : Cx) (r : V → Hp → (Bool → Hp → Prop) → Prop) : Prop :=
 ∀ (pins : List (Addr × Obj)) (s : Shared) (σ : St) (H : Hp) (x : V) (v : Value) (Q : Bool → Hp → Prop), Inv X pins σ H s → RelV x v → r x H Q →
   wpAny (model X.prog X.w) X.A (truthy v) (TP X pins σ Q) X.xe s
def XS (r : R2) (ta tb : TE) : TE := fun σ H Q => ta σ H fun x H1 => tb σ H1 fun y H2 => r x y H2 Q
def tUn (r : V → Hp → VK → Prop) (ta : TE) : TE := fun σ H Q => ta σ H fun x H1 => r x H1 Q
def rI (C : Int → Int → Prop) (g : Int → Int → V) : R2 := fun x y H Q => ∃ i j, x = .int i ∧ y = .int j ∧ C i j ∧ Q (g i j) H
def rI0 (g : Int → Int → V) : R2 := fun x y H Q => ∃ i j, x = .int i ∧ y = .int j ∧ Q (g i j) H
def rU (g : Int → V) : V → Hp → VK → Prop := fun x H Q => ∃ i, x = .int i ∧ Q (g i) H
section
variable {X : Cx} {a b c : Expr} {ta tb tc : TE} {pos : Pos}
theorem aaH (ha : PE X a ta) (hb : PE X b tb) {pins : List (Addr × Obj)} {s : Shared} {σ : St} {H : Hp} {R : V → V → Hp → Prop} (I : Inv X pins σ H s)
   (h : ta σ H fun x H1 => tb σ H1 fun y H2 => R x y H2) {Q : Value → Shared → Prop} {f : Value → Value → Sem Value}
   (hf : ∀ v u s2 x y H2, Inv X pins σ H2 s2 → RelV x v → RelV y u → R x y H2 → wpAny (model X.prog X.w) X.A (f v u) Q X.xe s2) :
   wpAny (model X.prog X.w) X.A (eval a X.env) (fun v s₁ => wpAny (model X.prog X.w) X.A (eval b X.env) (fun u s₂ => wpAny (model X.prog X.w) X.A (f v u) Q X.xe s₂) X.xe s₁) X.xe s := by
 refine eY (ha pins s σ H _ I h) fun v s1 ⟨x, H1, I1, r1, q1⟩ => ?_
 refine eY (hb pins s1 σ H1 _ I1 q1) fun u s2 ⟨y, H2, I2, r2, q2⟩ => ?_
 exact hf v u s2 x y H2 I2 r1 r2 q2
theorem zL {op : Operator} {r : R2} (ho : ir X (binaryOp op) r) (ha : PE X a ta) (hb : PE X b tb) : PE X (.BinOp a op b pos) (XS r ta tb) := by
 intro pins s σ H Q I h
 exact wpAny_BinOp (aaH ha hb I h fun v u s2 x y H2 I2 rx ry q => ho pins s2 σ H2 x y v u Q I2 rx ry q)
theorem vI {op : UnaryOp} {r : V → Hp → VK → Prop} (ho : uT X (unaryOp op) r) (ha : PE X a ta) : PE X (.UnaryOp op a pos) (tUn r ta) := by
 intro pins s σ H Q I h
 exact UnaryOp_ (eY (ha pins s σ H _ I h) fun v s1 ⟨x, H1, I1, r1, q1⟩ => ho pins s1 σ H1 x v Q I1 r1 q1)
theorem opI {f : Value → Value → Sem Value} {C : Int → Int → Prop} {g : Int → Int → Int}
   (rule : ∀ (i j : Int) (t u : Tok) (s : Shared) (Q : Value → Shared → Prop) (E : Value → Shared → Prop), C i j → Q (.int (g i j) s.toks) { s with toks := s.toks + 1 } → wpAny (model X.prog X.w) X.A (f (.int i t) (.int j u)) Q E s) :
   ir X f (rI C fun i j => .int (g i j)) := by
 intro pins s σ H x y v u Q I rx ry h
 obtain ⟨i, j, rfl, rfl, hc, q⟩ := h
 obtain ⟨t, rfl⟩ := rx
 obtain ⟨t', rfl⟩ := ry
 exact rule i j t t' s _ _ hc ⟨.int (g i j), H, I.tok _, ⟨_, rfl⟩, q⟩
theorem adT {f : Value → Value → Sem Value} {g : Int → Int → Int}
   (rule : ∀ (i j : Int) (t u : Tok) (s : Shared) (Q : Value → Shared → Prop) (E : Value → Shared → Prop), Q (.int (g i j) s.toks) { s with toks := s.toks + 1 } → wpAny (model X.prog X.w) X.A (f (.int i t) (.int j u)) Q E s) :
   ir X f (rI0 fun i j => .int (g i j)) := by
 intro pins s σ H x y v u Q I rx ry h
 obtain ⟨i, j, rfl, rfl, q⟩ := h
 obtain ⟨t, rfl⟩ := rx
 obtain ⟨t', rfl⟩ := ry
 exact rule i j t t' s _ _ ⟨.int (g i j), H, I.tok _, ⟨_, rfl⟩, q⟩
theorem aaI {f : Value → Value → Sem Value} {g : Int → Int → Bool}
   (rule : ∀ (i j : Int) (t u : Tok) (s : Shared) (Q : Value → Shared → Prop) (E : Value → Shared → Prop), Q (.bool (g i j)) s → wpAny (model X.prog X.w) X.A (f (.int i t) (.int j u)) Q E s) :
   ir X f (rI0 fun i j => .bl (g i j)) := by
 intro pins s σ H x y v u Q I rx ry h
 obtain ⟨i, j, rfl, rfl, q⟩ := h
 obtain ⟨t, rfl⟩ := rx
 obtain ⟨t', rfl⟩ := ry
 exact rule i j t t' s _ _ ⟨.bl (g i j), H, I, rfl, q⟩
def aoW (i j : Int) : Prop := 0 < j ∧ j < 1073741824
def aoX (i j : Int) : Prop := 0 ≤ j ∧ j ≤ 1000000 ∧ i.natAbs < 2 ^ 64
def adU (i j : Int) : Prop := (-(2 ^ 64) < i ∧ i < 2 ^ 64) ∨ (-(2 ^ 64) < j ∧ j < 2 ^ 64)
theorem adU.ok {i j : Int} (h : adU i j) : IntMulOk i j := by
 rcases h with ⟨h1, h2⟩ | ⟨h1, h2⟩
 · exact .of_left (intBits_le_64 h1 h2)
 · exact .of_right (intBits_le_64 h1 h2)
theorem qR : ir X (binaryOp .Add) (rI0 fun i j => .int (i + j)) := adT fun _ _ _ _ _ _ _ q => add_int q
theorem m9 : ir X (binaryOp .Sub) (rI0 fun i j => .int (i - j)) := adT fun _ _ _ _ _ _ _ q => sub_int q
theorem mH : ir X (binaryOp .FloorDiv) (rI aoW fun i j => .int (i / j)) := opI fun i j _ _ _ _ _ hc q => by
 have h1 : (0 : Int) < j := hc.1
 have h2 : j < 1073741824 := hc.2
 exact floordiv_int (by omega) (by rw [Int.fdiv_eq_ediv_of_nonneg i (by omega)]; exact q) (.inl (PyProof.noPylong_small (by omega)))
theorem yP : ir X (binaryOp .Mod) (rI (fun _ j => 0 < j) fun i j => .int (i % j)) := opI fun i j _ _ _ _ _ hc q => by
 have h1 : (0 : Int) < j := hc
 exact mod_int' (by omega) (by rw [Int.fmod_eq_emod_of_nonneg i (by omega)]; exact q)
theorem Ar : ir X (binaryOp .Pow) (rI aoX fun i j => .int (i ^ j.toNat)) := opI fun _ _ _ _ _ _ _ hc q => pow_int_small hc.1 hc.2.1 hc.2.2 q
theorem unI {f : Value → Sem Value} {g : Int → Int}
   (rule : ∀ (i : Int) (t : Tok) (s : Shared) (Q : Value → Shared → Prop) (E : Value → Shared → Prop), Q (.int (g i) s.toks) { s with toks := s.toks + 1 } → wpAny (model X.prog X.w) X.A (f (.int i t)) Q E s) :
   uT X f (rU fun i => .int (g i)) := by
 intro pins s σ H x v Q I rx h
 obtain ⟨i, rfl, q⟩ := h
 obtain ⟨t, rfl⟩ := rx
 exact rule i t s _ _ ⟨.int (g i), H, I.tok _, ⟨_, rfl⟩, q⟩
theorem pC : uT X (unaryOp .USub) (rU fun i => .int (-i)) := unI fun _ _ _ _ _ q => neg_int q
end
def adV : V → V → Bool
 | .non, .non => true | .non, .int _ => true | .int _, .non => true | .non, .bl _ => true | .bl _, .non => true | .non, .str _ => true | .str _, .non => true
 | .int _, .int _ => true | .bl _, .bl _ => true | .str _, .str _ => true | .Uv _, .Uv _ => true
 | .int _, .str _ => true | .str _, .int _ => true | .bl _, .str _ => true | .str _, .bl _ => true
 | _, _ => false
def rEq : R2 := fun x y H Q => adV x y = true ∧ Q (.bl (decide (x = y))) H
def rNe : R2 := fun x y H Q => adV x y = true ∧ Q (.bl (!decide (x = y))) H
theorem Ru {i j : Int} : decide (V.int i = V.int j) = (i == j) := by
 rw [Bool.eq_iff_iff]
 simp
theorem U8 {i j : Bool} : decide (V.bl i = V.bl j) = (i == j) := by
 rw [Bool.eq_iff_iff]
 simp
theorem Rv {i j : Str} : decide (V.str i = V.str j) = (i == j) := by
 rw [Bool.eq_iff_iff]
 simp
theorem Rw {i j : Array UInt8} : decide (V.Uv i = V.Uv j) = (i.toList == j.toList) := by
 rw [Bool.eq_iff_iff]
 cases i
 cases j
 simp
section
variable {X : Cx} {a b c : Expr} {ta tb tc : TE} {pos : Pos}
theorem yJ {pins : List (Addr × Obj)} {σ : St} {H : Hp} {s : Shared} {Q : VK} {k k' : Bool} (I : Inv X pins σ H s) (q : Q (.bl k) H) (e : k = k') : EP X pins σ Q (.bool k') s := by
 subst e
 exact ⟨.bl k, H, I, rfl, q⟩
theorem yR : ir X (compareOp .Eq) rEq := by
 intro pins s σ H x y v u Q I rx ry h
 obtain ⟨hs, q⟩ := h
 cases x with
 | non =>
   cases rx
   cases y with
   | non => cases ry; exact PySem.EqNone.eq_none_none (yJ I q (by simp))
   | bl j => cases ry; exact PySem.EqNone.eq_none_bool (yJ I q (by simp))
   | int j => obtain ⟨t', rfl⟩ := ry; exact PySem.EqNone.eq_none_int (yJ I q (by simp))
   | str j => obtain ⟨t', rfl⟩ := ry; exact PySem.EqNone.eq_none_str (yJ I q (by simp))
   | _ => exact absurd (show false = true from hs) Bool.false_ne_true
 | bl i =>
   cases rx
   cases y with
   | non => cases ry; exact PySem.EqNone.eq_bool_none (yJ I q (by simp))
   | bl j => cases ry; exact eq_bool (yJ I q U8)
   | str j => obtain ⟨t', rfl⟩ := ry; exact PySem.EqMixed.eq_bool_str (yJ I q (by simp))
   | _ => exact absurd (show false = true from hs) Bool.false_ne_true
 | int i =>
   obtain ⟨t, rfl⟩ := rx
   cases y with
   | non => cases ry; exact PySem.EqNone.eq_int_none (yJ I q (by simp))
   | int j => obtain ⟨t', rfl⟩ := ry; exact eq_int (yJ I q Ru)
   | str j => obtain ⟨t', rfl⟩ := ry; exact PySem.EqMixed.eq_int_str (yJ I q (by simp))
   | _ => exact absurd (show false = true from hs) Bool.false_ne_true
 | str i =>
   obtain ⟨t, rfl⟩ := rx
   cases y with
   | non => cases ry; exact PySem.EqNone.eq_str_none (yJ I q (by simp))
   | bl j => cases ry; exact PySem.EqMixed.eq_str_bool (yJ I q (by simp))
   | int j => obtain ⟨t', rfl⟩ := ry; exact PySem.EqMixed.eq_str_int (yJ I q (by simp))
   | str j => obtain ⟨t', rfl⟩ := ry; exact eq_str (yJ I q Rv)
   | _ => exact absurd (show false = true from hs) Bool.false_ne_true
 | Uv i =>
   obtain ⟨t, rfl⟩ := rx
   cases y with
   | Uv j => obtain ⟨t', rfl⟩ := ry; exact PySem.W.eq_bytes (yJ I q Rw)
   | _ => exact absurd (show false = true from hs) Bool.false_ne_true
 | _ => cases y <;> exact absurd (show false = true from hs) Bool.false_ne_true
theorem MJ : ir X (compareOp .NotEq) rNe := by
 intro pins s σ H x y v u Q I rx ry h
 obtain ⟨hs, q⟩ := h
 cases x with
 | non =>
   cases rx
   cases y with
   | non => cases ry; exact PySem.EqNone.ne_none_none (yJ I q (by simp))
   | bl j => cases ry; exact PySem.EqNone.ne_none_bool (yJ I q (by simp))
   | int j => obtain ⟨t', rfl⟩ := ry; exact PySem.EqNone.ne_none_int (yJ I q (by simp))
   | str j => obtain ⟨t', rfl⟩ := ry; exact PySem.EqNone.ne_none_str (yJ I q (by simp))
   | _ => exact absurd (show false = true from hs) Bool.false_ne_true
 | bl i =>
   cases rx
   cases y with
   | non => cases ry; exact PySem.EqNone.ne_bool_none (yJ I q (by simp))
   | bl j => cases ry; exact ne_bool (yJ I q (congrArg not U8))
   | str j => obtain ⟨t', rfl⟩ := ry; exact PySem.EqMixed.ne_bool_str (yJ I q (by simp))
   | _ => exact absurd (show false = true from hs) Bool.false_ne_true
 | int i =>
   obtain ⟨t, rfl⟩ := rx
   cases y with
   | non => cases ry; exact PySem.EqNone.ne_int_none (yJ I q (by simp))
   | int j => obtain ⟨t', rfl⟩ := ry; exact ne_int (yJ I q (congrArg not Ru))
   | str j => obtain ⟨t', rfl⟩ := ry; exact PySem.EqMixed.ne_int_str (yJ I q (by simp))
   | _ => exact absurd (show false = true from hs) Bool.false_ne_true
 | str i =>
   obtain ⟨t, rfl⟩ := rx
   cases y with
   | non => cases ry; exact PySem.EqNone.ne_str_none (yJ I q (by simp))
   | bl j => cases ry; exact PySem.EqMixed.ne_str_bool (yJ I q (by simp))
   | int j => obtain ⟨t', rfl⟩ := ry; exact PySem.EqMixed.ne_str_int (yJ I q (by simp))
   | str j => obtain ⟨t', rfl⟩ := ry; exact ne_str (yJ I q (congrArg not Rv))
   | _ => exact absurd (show false = true from hs) Bool.false_ne_true
 | Uv i =>
   obtain ⟨t, rfl⟩ := rx
   cases y with
   | Uv j => obtain ⟨t', rfl⟩ := ry; exact PySem.W.ne_bytes (yJ I q (congrArg not Rw))
   | _ => exact absurd (show false = true from hs) Bool.false_ne_true
 | _ => cases y <;> exact absurd (show false = true from hs) Bool.false_ne_true
theorem MK : ir X (compareOp .Lt) (rI0 fun i j => .bl (decide (i < j))) := aaI fun _ _ _ _ _ _ _ q => lt_int q
theorem xY : ir X (compareOp .LtE) (rI0 fun i j => .bl (decide (i ≤ j))) := aaI fun _ _ _ _ _ _ _ q => le_int q
theorem Rx : ir X (compareOp .Gt) (rI0 fun i j => .bl (decide (j < i))) := aaI fun _ _ _ _ _ _ _ q => gt_int q
theorem Av : ir X (compareOp .In) (fun x y H Q => ∃ i j, x = .str i ∧ y = .str j ∧ Q (.bl (!(Builtin.Str.occurrences j i 0 j.length 1).isEmpty)) H) := by
 intro pins s σ H x y v u Q I rx ry h
 obtain ⟨i, j, rfl, rfl, q⟩ := h
 obtain ⟨t, rfl⟩ := rx
 obtain ⟨t', rfl⟩ := ry
 exact in_str (yJ I q rfl)
theorem Kw : ir X (compareOp .Is) (fun x y H Q => y = .non ∧ Q (.bl (decide (x = .non))) H) := by
 intro pins s σ H x y v u Q I rx ry h
 obtain ⟨rfl, q⟩ := h
 cases ry
 refine is_none_gen (yJ I q ?_)
 cases x <;> first
   | (cases rx; rfl)
   | (obtain ⟨t, rfl⟩ := rx; rfl)
theorem Ex : ir X (compareOp .IsNot) (fun x y H Q => y = .non ∧ Q (.bl (!decide (x = .non))) H) := by
 intro pins s σ H x y v u Q I rx ry h
 obtain ⟨rfl, q⟩ := h
 cases ry
 refine isnot_none_gen (yJ I q ?_)
 cases x <;> first
   | (cases rx; rfl)
   | (obtain ⟨t, rfl⟩ := rx; rfl)
theorem ir.or {f : Value → Value → Sem Value} {r r' : R2} (h : ir X f r) (h' : ir X f r') : ir X f (fun x y H Q => r x y H Q ∨ r' x y H Q) := by
 intro pins s σ H x y v u Q I rx ry q
 rcases q with q | q
 · exact h pins s σ H x y v u Q I rx ry q
 · exact h' pins s σ H x y v u Q I rx ry q
theorem zS (b : Expr) {op : CmpOp} (h : op ≠ .In := by decide) (h2 : op ≠ .NotIn := by decide) : behindInMarks op b = false := by
 have e1 : (op == CmpOp.In) = false := by cases op <;> first | rfl | exact absurd rfl h
 have e2 : (op == CmpOp.NotIn) = false := by cases op <;> first | rfl | exact absurd rfl h2
 cases b <;> simp [behindInMarks, e1, e2]
theorem xF {op : CmpOp} {r : R2} (ho : ir X (compareOp op) r) (ha : PE X a ta) (hb : PE X b tb) (hm : behindInMarks op b = false) : PE X (.Compare a [op] [b] pos) (XS r ta tb) := by
 intro pins s σ H Q I h
 exact wpAny_Compare1 (aaH ha hb I h fun v u s2 x y H2 I2 rx ry q => ho pins s2 σ H2 x y v u Q I2 rx ry q) hm
def U9 (t : TE) : TT := fun σ H Q => t σ H fun x H' => ∃ k, x = .bl k ∧ Q k H'
theorem zQ {op : CmpOp} {r : R2} (ho : ir X (compareOp op) r) (ha : PE X a ta) (hb : PE X b tb) (hm : behindInMarks op b = false) : PT X (.Compare a [op] [b] pos) (U9 (XS r ta tb)) := by
 intro pins s σ H Q I h
 refine wpAny_isTrue_Compare1 (eY (ha pins s σ H _ I h) fun v s1 ⟨x, H1, I1, r1, q1⟩ => eY (hb pins s1 σ H1 _ I1 q1) fun u s2 ⟨y, H2, I2, r2, q2⟩ =>
   eY (ho pins s2 σ H2 x y v u _ I2 r1 r2 q2) fun c s3 ⟨z, H3, I3, r3, k, e, q3⟩ => ?_) hm
 subst e
 cases r3
 exact wpAny_truthy_bool ⟨H3, I3, q3⟩
def Va (r r' : R2) (ta tb tc : TE) : TE := fun σ H Q => ta σ H fun x H1 => tb σ H1 fun y H2 => r x y H2 fun z H3 => ∃ k, z = .bl k ∧
 (if k = true then tc σ H3 fun w' H4 => r' y w' H4 Q else Q (.bl false) H3)
theorem MN {op op' : CmpOp} {r r' : R2} (ho : ir X (compareOp op) r) (ho' : ir X (compareOp op') r') (ha : PE X a ta) (hb : PE X b tb) (hc : PE X c tc)
   (hm : lastMarks [op, op'] [b, c] = false := by with_unfolding_all rfl) : PE X (.Compare a [op, op'] [b, c] pos) (Va r r' ta tb tc) := by
 intro pins s σ H Q I h
 refine Compare_chain (eY (ha pins s σ H _ I h) fun v s1 ⟨x, H1, I1, r1, q1⟩ => chain_link (eY (hb pins s1 σ H1 _ I1 q1) fun u s2 ⟨y, H2, I2, r2, q2⟩ =>
   eY (ho pins s2 σ H2 x y v u _ I2 r1 r2 q2) fun d s3 ⟨z, H3, I3, r3, k, e, q3⟩ => ?_)) hm
 subst e
 cases r3
 refine wpAny_truthy_bool ?_
 cases k with
 | false => exact ite_ff ⟨.bl false, H3, I3, rfl, q3⟩
 | true => exact ite_tt (chain_last (eY (hc pins s3 σ H3 _ I3 q3) fun w' s4 ⟨z', H4, I4, r4, q4⟩ => ho' pins s4 σ H4 y z' u w' Q I4 r2 r4 q4))
theorem MP {op op' : CmpOp} {r r' : R2} (ho : ir X (compareOp op) r) (ho' : ir X (compareOp op') r') (ha : PE X a ta) (hb : PE X b tb) (hc : PE X c tc)
   (hm : lastMarks [op, op'] [b, c] = false := by with_unfolding_all rfl) : PT X (.Compare a [op, op'] [b, c] pos) (U9 (Va r r' ta tb tc)) := by
 intro pins s σ H Q I h
 refine isTrue_chain (eY (ha pins s σ H _ I h) fun v s1 ⟨x, H1, I1, r1, q1⟩ => test_link (eY (hb pins s1 σ H1 _ I1 q1) fun u s2 ⟨y, H2, I2, r2, q2⟩ =>
   eY (ho pins s2 σ H2 x y v u _ I2 r1 r2 q2) fun d s3 ⟨z, H3, I3, r3, k, e, q3⟩ => ?_)) hm
 subst e
 cases r3
 refine wpAny_truthy_bool ?_
 cases k with
 | false =>
   obtain ⟨k', e', q'⟩ := q3
   cases e'
   exact ite_ff ⟨H3, I3, q'⟩
 | true =>
   refine ite_tt (test_last (eY (hc pins s3 σ H3 _ I3 q3) fun w' s4 ⟨z', H4, I4, r4, q4⟩ => eY (ho' pins s4 σ H4 y z' u w' _ I4 r2 r4 q4) fun d' s5 ⟨z2, H5, I5, r5, k2, e2, q5⟩ => ?_))
   subst e2
   cases r5
   exact wpAny_truthy_bool ⟨H5, I5, q5⟩
theorem Ft : (sizeLine : Nat) < 2 ^ 63 := by rw [sizeLine_eq]; decide
theorem zH : ir X (binaryOp .Add) (fun x y H Q => ∃ i j, x = .str i ∧ y = .str j ∧ i.length + j.length ≤ sizeLine ∧ Q (.str (i ++ j)) H) := by
 intro pins s σ H x y v u Q I rx ry h
 obtain ⟨i, j, rfl, rfl, hz, q⟩ := h
 obtain ⟨t, rfl⟩ := rx
 obtain ⟨t', rfl⟩ := ry
 exact add_str (fun t' tk => ⟨.str (i ++ j), H, I.tok _, ⟨_, rfl⟩, q⟩) hz
theorem vals1 {x : V} {us : List Value} (r : Vals [x] us) : ∃ u, us = [u] ∧ RelV x u := by
 cases r with
 | cons r1 r2 => cases r2; exact ⟨_, rfl, r1⟩
theorem vals2 {x y : V} {us : List Value} (r : Vals [x, y] us) : ∃ u w', us = [u, w'] ∧ RelV x u ∧ RelV y w' := by
 cases r with
 | cons r1 r2 =>
   cases r2 with
   | cons r3 r4 => cases r4; exact ⟨_, _, rfl, r1, r3⟩
theorem MT : bL X (.builtin "abs") (fun xs H Q => ∃ i, xs = [.int i] ∧ Q (.int (if i < 0 then -i else i)) H) := by
 intro pins s σ H xs us Q I r h
 obtain ⟨i, rfl, q⟩ := h
 obtain ⟨u, rfl, t, rfl⟩ := vals1 r
 exact call_abs_int fun u tk => ⟨.int (if i < 0 then -i else i), H, I.tok _, ⟨_, rfl⟩, q⟩
theorem yT : bL X (.type "str") (fun xs H Q => ∃ i, xs = [.int i] ∧ i.natAbs.log2 < 1920 ∧ Q (.str (toString i)) H) := by
 intro pins s σ H xs us Q I r h
 obtain ⟨i, rfl, hz, q⟩ := h
 obtain ⟨u, rfl, t, rfl⟩ := vals1 r
 exact PySem.P.str_of_int hz ⟨.str _, H, I.tok _, ⟨_, rfl⟩, q⟩
end
end L2
namespace L2
open PySem PySem.Spec PyProof.Rows
structure Qi (h : Heap) (x dx C : Addr) (mA : Str → Option Value) : Prop where
 obj : h.get? x = some (PySem.W.instObj C dx)
 ns : h.Ns1 dx mA
 ne : dx ≠ x
theorem Tf {h : Heap} {dx : Addr} {mA : Str → Option Value} (n : h.Ns1 dx mA) : ∃ od, h.get? dx = some od ∧ ∀ name, PySem.W.lookIn name od = some (mA name) := by
 obtain ⟨o, es, ep, ho, hd, hk, _, hm⟩ := n
 refine ⟨o, ho, fun name => ?_⟩
 have e := hm name
 unfold nsFind findBy at e
 rw [← Array.find?_toList] at e
 unfold PySem.W.lookIn
 rw [hd]
 dsimp only
 split
 · rename_i y q
   rw [q] at e
   exact congrArg some e
 · rename_i q
   rw [q] at e
   have a : es.toList.any (·.refKey) = false := by
     rw [List.any_eq_false]
     intro y hy
     obtain ⟨z, t, hkey⟩ := hk y (Array.mem_toList_iff.mp hy)
     simp [DictEntry.refKey, hkey]
   have a' : ¬ es.toList.any (·.refKey) = true := by rw [a]; exact Bool.false_ne_true
   rw [if_neg a']
   exact congrArg some e
theorem Qi.look {h : Heap} {x dx C : Addr} {mA : Str → Option Value} (I : Qi h x dx C mA) : ∃ od, PySem.W.InstAt h x (PySem.W.instObj C dx) C (some od) ∧ ∀ name, PySem.W.lookIn name od = some (mA name) :=
 let ⟨od, ho, hl⟩ := Tf I.ns
 ⟨od, ⟨I.obj, rfl, rfl, ho⟩, hl⟩
section
variable {prog : Program} {w : World} {A : Around} {E : Value → Shared → Prop} {s : Shared} {K : PySem.W.Frag} {x dx C f : Addr} {mA : Str → Option Value} {name : Str} {v : Value}
theorem get_map {expr : Bool} {Q : Value → Shared → Prop} (X : K.In s.heap) (I : Qi s.heap x dx C mA) (hg : PySem.W.plainGet K C name = true) (hh : PySem.W.hasDictIn K C = true)
   (ha : PySem.W.findIn K (.ref C) name = some none) (hv : mA name = some v) (hv' : PySem.W.handedIn v = true) (h : Q v { s with toks := s.toks + 1 }) :
   wpAny (model prog w) A (getAttr (.ref x) name expr) Q E s := by
 obtain ⟨od, J, hl⟩ := I.look
 exact PySem.W.get_value X J (PySem.W.plainGet_of hg).1 (PySem.W.findObj_own hh ha rfl (by rw [hl, hv])) hv' h
theorem Vb {pl : Sem Bool} {Q : Value × List Value → Shared → Prop} (X : K.In s.heap) (I : Qi s.heap x dx C mA) (hg : PySem.W.plainGet K C name = true)
   (hf : PySem.W.findIn K (.ref C) name = some (some (.ref f))) (ht : PySem.W.isFn K (.ref f) = true) (hv : mA name = none) (h : Q (.ref f, [.ref x]) s) :
   wpAny (model prog w) A (getMethod (.ref x) name pl) Q E s := by
 obtain ⟨od, J, hl⟩ := I.look
 exact PySem.W.method_fn X J (PySem.W.plainGet_of hg).1 (PySem.W.plainGet_of hg).2 hf (beq_iff_eq.mp ht) (by show (PySem.W.lookIn name od).map (·.isSome) = some false; rw [hl, hv]; rfl) h
theorem XX {ns : List Str} {Q : Unit → Shared → Prop} (X : K.In s.heap) (I : Qi s.heap x dx C mA)
   (hs : PySem.W.findIn K (.ref C) "__setattr__" = some (some (.builtin "object.__setattr__"))) (hp : PySem.W.plainOver K C = true) (ht : PySem.W.takerIn K C name = some none) (hh : PySem.W.hasDictIn K C = true)
   (hw : PySem.Within mA ns) (hsz : ns.length ≤ sizeLine)
   (h : ∀ h', Qi h' x dx C (fun y => if y = name then some v else mA y) → Heap.SameBut dx s.heap h' → Q () { s with heap := h', toks := s.toks + 2 }) :
   wpAny (model prog w) A (setAttr (.ref x) name v) Q E s := by
 obtain ⟨od, J, hl⟩ := I.look
 refine PySem.W.set_plain X J hs (PySem.W.osa_open (s := { s with toks := s.toks + 1 }) (r := none) X J hp ht fun b => ?_)
 obtain ⟨cd, hc, hd'⟩ := PySem.W.any_some hh
 have hx : s.heap.get? x = some ⟨.ref C, some dx, .plain, #[]⟩ := I.obj
 refine wpAny_bind (wpAny_pure (wpAny_bind (wpAny_bind (wpAny_loadPart hx (wpAny_bind (PySem.W.Looks.here (s := { s with toks := s.toks + 1 }) (PySem.W.looks_clsIn X hc) ?_))))))
 rw [hd']
 refine wpAny_pure (a := some dx) (wpAny_bind (wpAny_pure (wpAny_bind ?_)))
 refine wpAny_nsSet1 (s := { s with toks := s.toks + 1 }) I.ns fun h' hn2 hs2 => ?_
 obtain ⟨oD, esD, epD, hoD, hdD, hcD⟩ := hn2.count (PySem.Within.cons name v hw)
 refine wpAny_bind (wpAny_lookBehind hoD (by rw [hdD]; exact pastItsLine_dict (Nat.le_trans hcD (by rw [List.length_cons]; omega))) ?_)
 exact wpAny_pure (h _ ⟨(hs2.2 _ (Ne.symm I.ne)).trans I.obj, hn2, I.ne⟩ hs2)
theorem Vc {R : Result → Shared → Prop} {vs : List Value} {kw : List (Str × Value)} (X : K.In s.heap) (hm : PySem.W.makesIn K C = true)
   (hi : PySem.W.findIn K (.ref C) "__init__" = some (some (.ref f))) (hf : PySem.W.typeIn K (.ref f) = some (.type "function"))
   (h : codeAny (model prog w) (A.under (.builtin "type.__call__" ⟨.ref C :: vs, kw⟩)) (.call (.ref f) ⟨.ref (s.heap.objs.size + 1) :: vs, kw⟩) (PySem.W.InitBack (s.heap.objs.size + 1) R)
     { s with heap := (s.heap.push PySem.W.emptyDict).push (PySem.W.instObj C s.heap.objs.size) }) :
   codeAny (model prog w) A (.call (.ref C) ⟨vs, kw⟩) R s := by
 obtain ⟨hh, g, d, t, os⟩ := s
 exact PySem.W.make_core (PySem.W.makes_of X hm) (PySem.W.looks_findIn X hi) (fun self => PySem.W.bind_fn X self hf) (.inl rfl) h
end
def ji (f : Str) (v : V) : List (Str × V) → List (Str × V)
 | [] => [(f, v)]
 | (g, x) :: r => if g = f then (g, v) :: r else (g, x) :: ji f v r
theorem Ci (f g : Str) (v : V) : ∀ fs : List (Str × V), (ji f v fs).lookup g = if g = f then some v else fs.lookup g
 | [] => by
   show List.lookup g [(f, v)] = _
   by_cases h : g = f
   · have hb : (g == f) = true := beq_iff_eq.mpr h
     simp only [List.lookup, hb, if_pos h]
   · have hb : (g == f) = false := beq_eq_false_iff_ne.mpr h
     simp only [List.lookup, hb, if_neg h]
 | (k, x) :: r => by
   have ih := Ci f g v r
   rw [show ji f v ((k, x) :: r) = (if k = f then (k, v) :: r else (k, x) :: ji f v r) from rfl]
   by_cases hk : k = f
   · rw [if_pos hk]
     by_cases h : g = k
     · have hb : (g == k) = true := beq_iff_eq.mpr h
       simp only [List.lookup, hb, if_pos (h.trans hk)]
     · have hb : (g == k) = false := beq_eq_false_iff_ne.mpr h
       simp only [List.lookup, hb, if_neg (fun e : g = f => h (e.trans hk.symm))]
   · rw [if_neg hk]
     by_cases h : g = k
     · have hb : (g == k) = true := beq_iff_eq.mpr h
       simp only [List.lookup, hb, if_neg (fun e : g = f => hk (h.symm.trans e))]
     · have hb : (g == k) = false := beq_eq_false_iff_ne.mpr h
       simp only [List.lookup, hb]
       exact ih
theorem Aw (f : Str) (v : V) : ∀ fs : List (Str × V), f ∈ (ji f v fs).map (·.1) ∧ ∀ g, g ∈ fs.map (·.1) → g ∈ (ji f v fs).map (·.1)
 | [] => ⟨by simp [ji], fun g h => by simp at h⟩
 | (k, x) :: r => by
   obtain ⟨i1, i2⟩ := Aw f v r
   rw [show ji f v ((k, x) :: r) = (if k = f then (k, v) :: r else (k, x) :: ji f v r) from rfl]
   by_cases hk : k = f
   · rw [if_pos hk]
     subst hk
     exact ⟨by simp, fun g h => by simpa using h⟩
   · rw [if_neg hk]
     refine ⟨?_, fun g h => ?_⟩
     · rw [List.map_cons]
       exact List.mem_cons_of_mem _ i1
     · rw [List.map_cons] at h ⊢
       rcases List.mem_cons.mp h with e | e
       · exact List.mem_cons.mpr (.inl e)
       · exact List.mem_cons_of_mem _ (i2 g e)
theorem Cj (f : Str) (v : V) : ∀ fs : List (Str × V), (ji f v fs).length ≤ fs.length + 1
 | [] => by simp [ji]
 | (k, x) :: r => by
   have ih := Cj f v r
   rw [show ji f v ((k, x) :: r) = (if k = f then (k, v) :: r else (k, x) :: ji f v r) from rfl]
   by_cases hk : k = f
   · rw [if_pos hk, List.length_cons, List.length_cons]; omega
   · rw [if_neg hk, List.length_cons, List.length_cons]; omega
theorem xW.some_of {v : V} {o : Option Value} (r : xW (some v) o) : ∃ u, o = some u ∧ RelV v u := by
 cases o with
 | none => exact (show False from r).elim
 | some u => exact ⟨u, rfl, r⟩
theorem xW.none_of {o : Option Value} (r : xW none o) : o = none := by
 cases o with
 | none => rfl
 | some u => exact (show False from r).elim
theorem Tg {v : V} {u : Value} (r : RelV v u) : PySem.W.handedIn u = true := by
 cases v with
 | non => cases (show u = Value.none from r); rfl
 | bl b => cases (show u = Value.bool b from r); rfl
 | int i => obtain ⟨t, e⟩ := (show ∃ t, u = Value.int i t from r); cases e; rfl
 | str x => obtain ⟨t, e⟩ := (show ∃ t, u = Value.str x t from r); cases e; rfl
 | Uv b => obtain ⟨t, e⟩ := (show ∃ t, u = Value.bytes b t from r); cases e; rfl
 | flt b => obtain ⟨t, e⟩ := (show ∃ t, u = Value.float b t from r); cases e; rfl
 | ref a => cases (show u = Value.ref a from r); rfl
 | ty n => cases (show u = Value.type n from r); rfl
section
variable {P : Program} {w : World} {H H' : Hp} {h h' : Heap} {a C dx : Addr} {fs fs' : List (Str × V)}
theorem Ey (hok : Dd P w H h) (e : H a = some (.ins C dx fs)) : ∃ mA, Qi h a dx C mA ∧ (∀ f, xW (fs.lookup f) (mA f)) ∧ PySem.Within mA (fs.map (·.1)) ∧ fs.length ≤ 1000 ∧ H dx = some (.own a) := by
 obtain ⟨d, z, ne, ob, mA, n, r, q⟩ := (show gr P w H h a (.ins C dx fs) from hok a _ e)
 exact ⟨mA, ⟨ob, n, ne⟩, r, q, z, d⟩
end
structure uU (K : PySem.W.Frag) (C : Addr) : Prop where
 pg : PySem.W.plainGet K C Str.empty = true
 hd : PySem.W.hasDictIn K C = true
 po : PySem.W.plainOver K C = true
 sa : PySem.W.findIn K (.ref C) "__setattr__" = some (some (.builtin "object.__setattr__"))
theorem uU.get {K : PySem.W.Frag} {C : Addr} (c : uU K C) (f : Str) : PySem.W.plainGet K C f = true := c.pg
def aD (K : PySem.W.Frag) (C : Addr) (f : Str) : Prop := PySem.W.findIn K (.ref C) f = some none
theorem aD.taker {K : PySem.W.Frag} {C : Addr} {f : Str} (n : aD K C f) : PySem.W.takerIn K C f = some none := by
 unfold PySem.W.takerIn
 rw [show PySem.W.findIn K (.ref C) f = some none from n]
 rfl
structure Con (K : PySem.W.Frag) (C : Addr) (f : Str) (v : V) (u : Value) : Prop where
 at_ : PySem.W.findIn K (.ref C) f = some (some u)
 rel : RelV v u
 get : PySem.W.specialIn K u "__get__" = some none
 cp : PySem.W.copiedNames.contains f = false
structure Meth (K : PySem.W.Frag) (C : Addr) (m : Str) (f : Addr) : Prop where
 at_ : PySem.W.findIn K (.ref C) m = some (some (.ref f))
 fn : PySem.W.isFn K (.ref f) = true
 kp : PySem.W.keepIn K (.ref f) = true
section
variable {X : Cx} {pins : List (Addr × Obj)} {σ : St} {H : Hp} {s : Shared} {a C dx : Addr} {fs : List (Str × V)} {f : Str} {v : V} {A : Around} {E : Value → Shared → Prop}
theorem Fv {b : Bool} {Q : Value → Shared → Prop} (I : Inv X pins σ H s) (e : H a = some (.ins C dx fs)) (c : uU X.K C) (n : aD X.K C f) (l : fs.lookup f = some v)
   (h : ∀ u s', Inv X pins σ H s' → RelV v u → Q u s') : wpAny (model X.prog X.w) A (getAttr (.ref a) f b) Q E s := by
 obtain ⟨mA, O, r, _, _, _⟩ := Ey I.hok e
 obtain ⟨u, hu, ru⟩ := xW.some_of (v := v) (o := mA f) (by rw [← l]; exact r f)
 exact get_map I.Ew O (c.get f) c.hd n hu (Tg ru) (h u _ (I.tok _) ru)
theorem Fw {m : Str} {g : Addr} {pl : Sem Bool} {Q : Value × List Value → Shared → Prop} (I : Inv X pins σ H s) (e : H a = some (.ins C dx fs)) (c : uU X.K C) (k : Meth X.K C m g) (l : fs.lookup m = none)
   (h : Q (.ref g, [.ref a]) s) : wpAny (model X.prog X.w) A (getMethod (.ref a) m pl) Q E s := by
 obtain ⟨mA, O, r, _, _, _⟩ := Ey I.hok e
 have hn : mA m = none := xW.none_of (by rw [← l]; exact r m)
 exact Vb I.Ew O (c.get m) k.at_ k.fn hn h
theorem Fx {y : V} {u : Value} {Q : Unit → Shared → Prop} (I : Inv X pins σ H s) (e : H a = some (.ins C dx fs)) (c : uU X.K C) (n : aD X.K C f) (hl : fs.length < 1000) (ry : RelV y u)
   (h : ∀ s', Inv X pins σ (upd H a (.ins C dx (ji f y fs))) s' → Q () s') : wpAny (model X.prog X.w) A (setAttr (.ref a) f u) Q E s := by
 obtain ⟨mA, O, r, wi, _, ho⟩ := Ey I.hok e
 have hz : (fs.map (·.1)).length ≤ sizeLine := by rw [List.length_map, sizeLine_eq]; omega
 refine XX I.Ew O c.sa c.po n.taker c.hd wi hz fun h' O' sb => h _ ?_
 have hd : ∃ o, h'.get? dx = some o := let ⟨o, _, _, e', _⟩ := O'.ns; ⟨o, e'⟩
 refine I.write (x := a) (e := dx) (by rw [e]; exact True.intro) (.inr ho) (fun b q hb z => (sb.2 b hb).trans z) hd ?_
 refine ⟨by rw [zP O.ne]; exact ho, ?_, O.ne, O'.obj, _, O'.ns, fun g => ?_, fun g hg => ?_⟩
 · have := Cj f y fs; omega
 · show xW ((ji f y fs).lookup g) (if g = f then some u else mA g)
   rw [Ci]
   by_cases q : g = f
   · rw [if_pos q, if_pos q]; exact ry
   · rw [if_neg q, if_neg q]; exact r g
 · by_cases q : g = f
   · rw [q]; exact (Aw f y fs).1
   · refine (Aw f y fs).2 g (wi g fun z => hg ?_)
     show (if g = f then some u else mA g) = none
     rw [if_neg q]; exact z
theorem Inv.made (I : Inv X pins σ H s) : Inv X pins σ (upd (upd H s.heap.objs.size (.own (s.heap.objs.size + 1))) (s.heap.objs.size + 1) (.ins C s.heap.objs.size []))
   { s with heap := (s.heap.push PySem.W.emptyDict).push (PySem.W.instObj C s.heap.objs.size) } := by
 have e1 : (s.heap.push PySem.W.emptyDict).get? s.heap.objs.size = some PySem.W.emptyDict := Heap.get?_push_size s.heap rfl
 have e2 : ((s.heap.push PySem.W.emptyDict).push (PySem.W.instObj C s.heap.objs.size)).get? (s.heap.objs.size + 1) = some (PySem.W.instObj C s.heap.objs.size) := by
   have := Heap.get?_push_size (s.heap.push PySem.W.emptyDict) (o := PySem.W.instObj C s.heap.objs.size) rfl
   rwa [Heap.size_push] at this
 have e3 : (s.heap.push PySem.W.emptyDict).Ns s.heap.objs.size (fun _ => none) := ⟨PySem.W.emptyDict, #[], _, e1, rfl, (fun e he => absurd he (by simp)), fun _ => rfl⟩
 have I1 := I.laid (a := s.heap.objs.size) (o := .own (s.heap.objs.size + 1)) (h' := s.heap.push PySem.W.emptyDict) (t' := s.toks) (fun b u q => Heap.get?_push_of_some _ q) (Nat.le_refl _) ⟨_, e1⟩
 refine I1.laid (a := s.heap.objs.size + 1) (o := .ins C s.heap.objs.size []) (t' := s.toks) (fun b u q => Heap.get?_push_of_some _ q) (Nat.le_of_eq (Heap.size_push _ _)) ?_
 have ne : s.heap.objs.size ≠ s.heap.objs.size + 1 := Nat.ne_of_lt (Nat.lt_succ_self _)
 refine ⟨by rw [zP ne, zD], Nat.zero_le _, ne, e2, fun _ => none, (Heap.Ns1.of_empty e3).at fun o q => Heap.get?_push_of_some _ q, fun _ => True.intro, fun y hy => absurd rfl hy⟩
theorem X3 {prog : Program} {w : World} {env : Env} {e : Expr} {f : Str} {pos : Pos} {s : Shared} {Q : Value → Shared → Prop} (hb : attributeBase e f env (eval e env) = eval e env)
   (h : wpAny (model prog w) A (eval e env) (fun o s₁ => wpAny (model prog w) A (getAttr o f true) Q E s₁) E s) : wpAny (model prog w) A (eval (.Attribute e f pos) env) Q E s :=
 Attribute_any_ h (by rw [arm_eval_Attribute, hb])
end
def aoY (K : PySem.W.Frag) (ta : TE) (f : Str) : TE := fun σ H Q => ta σ H fun x H1 => ∃ a C dx fs v, x = .ref a ∧ H1 a = some (.ins C dx fs) ∧ uU K C ∧ aD K C f ∧ fs.lookup f = some v ∧ Q v H1
def aoZ (K : PySem.W.Frag) (ta tv : TE) (f : Str) : TS := fun D σ H => tv σ H fun y H1 => ta σ H1 fun x H2 => ∃ a C dx fs, x = .ref a ∧ H2 a = some (.ins C dx fs) ∧ uU K C ∧ aD K C f ∧ fs.length < 1000 ∧
 D.nx σ (upd H2 a (.ins C dx (ji f y fs)))
def adW (X : Cx) (op : Operator) (rd : V → V → Hp → VK → Prop) : Prop :=
 ∀ (pins : List (Addr × Obj)) (s : Shared) (σ : St) (H : Hp) (x y : V) (u v : Value) (Q : VK), Inv X pins σ H s → RelV x u → RelV y v → rd x y H Q → wpAny (model X.prog X.w) X.A (inplaceOp op u v) (EP X pins σ Q) X.xe s
def X4 (K : PySem.W.Frag) (ta tv : TE) (rd : V → V → Hp → VK → Prop) (f : Str) : TS := fun D σ H => ta σ H fun x H1 => ∃ a C dx fs v, x = .ref a ∧ H1 a = some (.ins C dx fs) ∧ uU K C ∧ aD K C f ∧ fs.lookup f = some v ∧
 tv σ H1 fun y H2 => rd v y H2 fun z H3 => ∃ Ry fs', H3 a = some (.ins C Ry fs') ∧ fs'.length < 1000 ∧ D.nx σ (upd H3 a (.ins C Ry (ji f z fs')))
section
variable {X : Cx} {o e value : Expr} {f : Str} {pos pos' tpos : Pos} {ta tv : TE}
theorem zZ (he : PE X e ta) (hb : attributeBase e f X.env (eval e X.env) = eval e X.env) : PE X (.Attribute e f pos) (aoY X.K ta f) := by
 intro pins s σ H Q I h
 refine X3 hb (eY (he pins s σ H _ I h) fun u s1 ⟨x, H1, I1, rx, a, C, dx, fs, v, ex, ea, c, n, l, q⟩ => ?_)
 subst ex
 obtain rfl : u = Value.ref a := rx
 exact Fv I1 ea c n l fun u' s2 I2 ru => ⟨v, H1, I2, ru, q⟩
theorem yN (ha : PE X o ta) (hv : PE X value tv) (hs : swapsWith value (some (.Attribute o f pos')) pos.line X.env = pure false) : PS X (.Assign [.Attribute o f pos'] value pos) (aoZ X.K ta tv f) := by
 intro pins s σ H D I h
 refine plainObj_wpAny_Assign_Attribute (eY (hv pins s σ H _ I h) fun u s1 ⟨y, H1, I1, ry, q⟩ => eY (ha pins s1 σ H1 _ I1 q) fun ov s2 ⟨x, H2, I2, rx, a, C, dx, fs, ex, ea, c, n, l, q2⟩ => ?_) hs
 subst ex
 obtain rfl : ov = Value.ref a := rx
 exact Fx I2 ea c n l ry fun s3 I3 => ⟨σ, _, I3, q2⟩
theorem Th {op : Operator} {rd : V → V → Hp → VK → Prop} (ha : PE X o ta) (hv : PE X value tv) (hop : adW X op rd) : PS X (.AugAssign (.Attribute o f tpos) op value pos) (X4 X.K ta tv rd f) := by
 intro pins s σ H D I h
 refine wpAny_AugAssign_AttributeAny (eY (ha pins s σ H _ I h) fun ov s1 ⟨x, H1, I1, rx, a, C, dx, fs, v, ex, ea, c, n, l, q⟩ => ?_)
 subst ex
 obtain rfl : ov = Value.ref a := rx
 refine Fv I1 ea c n l fun u s2 I2 ru => eY (hv pins s2 σ H1 _ I2 q) fun w3 s3 ⟨y, H2, I3, ry, q3⟩ => eY (hop pins s3 σ H2 v y u w3 _ I3 ru ry q3) fun w4 s4 ⟨z, H3, I4, rz, Ry, fs', ea', l', q4⟩ => ?_
 exact Fx I4 ea' c n l' rz fun s5 I5 => ⟨σ, _, I5, q4⟩
def ao0 : V → V → Hp → VK → Prop := fun x y H Q => ∃ i j, x = .int i ∧ y = .int j ∧ Q (.int (i + j)) H
theorem aaJ : adW X .Add ao0 := by
 rintro pins s σ H x y u v Q I rx ry ⟨i, j, rfl, rfl, q⟩
 obtain ⟨t, rfl⟩ := (show ∃ t, u = Value.int i t from rx)
 obtain ⟨t', rfl⟩ := (show ∃ t', v = Value.int j t' from ry)
 exact PyProof.Rows.iadd_int ⟨.int (i + j), H, I.tok _, ⟨_, rfl⟩, q⟩
end
section
variable {X : Cx} {pins : List (Addr × Obj)} {σ : St} {H : Hp} {s : Shared} {A : Around} {E : Value → Shared → Prop} {Q : Value → Shared → Prop} {c : Value} {b : Bool}
inductive au (K : PySem.W.Frag) (H : Hp) : V → Value → Prop where
 | non : au K H .non (.type "NoneType")
 | bl (x : Bool) : au K H (.bl x) (.type "bool")
 | int (i : Int) : au K H (.int i) (.type "int")
 | str (x : Str) : au K H (.str x) (.type "str")
 | flt (x : UInt64) : au K H (.flt x) (.type "float")
 | lst {a : Addr} {xs : List V} (e : H a = some (.lst xs)) : au K H (.ref a) (.type "list")
 | Mu {a : Addr} {o : Obj} {xs : List V} (e : H a = some (.Mu o (.lst xs))) : au K H (.ref a) (.type "list")
 | tup {a : Addr} {xs : List V} (e : H a = some (.tup xs)) : au K H (.ref a) (.type "tuple")
 | dK {a : Addr} {kvs : List (Key × V)} (e : H a = some (.dK kvs)) : au K H (.ref a) (.type "dict")
 | dT {a : Addr} {kvs : List (List Key × V)} (e : H a = some (.dT kvs)) : au K H (.ref a) (.type "dict")
 | ins {a C dx : Addr} {fs : List (Str × V)} (e : H a = some (.ins C dx fs)) (cl : uU K C) (ha : PySem.W.findIn K (.ref C) "__class__" = some (some (.builtin "object.__class__")))
     (hn : PySem.W.specialIn K (.builtin "object.__class__") "__get__" = some (some (.builtin "getset_descriptor.__get__"))) (htk : PySem.W.takesIn K (.builtin "object.__class__") = some true)
     (hm : PySem.W.mroIn K C (.type "object") = some true) : au K H (.ref a) (.ref C)
end
end L2
namespace L2
open PySem PySem.Spec PyProof.Rows
structure fK (k : Nat) (A : Around) : Prop where
 hd : A.handled = none
 dp : A.depth + 3 * k + 5 < recursionLimit
 un : A.units + 16 * k + 200 < cLine
theorem fK.mono {j k : Nat} {A : Around} (r : fK k A) (h : j ≤ k) : fK j A := ⟨r.hd, by have := r.dp; omega, by have := r.un; omega⟩
theorem fK.deeper {k : Nat} {A : Around} (r : fK (k + 1) A) (env : Env) : fK k (A.deeper env) :=
 ⟨r.hd, by have := r.dp; show A.depth + 1 + 3 * k + 5 < _; omega, by have := r.un; show A.units + 3 + 16 * k + 200 < _; omega⟩
theorem fK.in1 {k : Nat} {A : Around} (r : fK (k + 1) A) : fK k A.in1 :=
 ⟨r.hd, by have := r.dp; show A.depth + 3 * k + 5 < _; omega, by have := r.un; show A.units + 1 + 16 * k + 200 < _; omega⟩
theorem Qj {A : Around} {C : Addr} {us : List Value} {kw : List (Str × Value)} : (A.under (.builtin "type.__call__" ⟨.ref C :: us, kw⟩)).depth = A.depth + 1 := by
 first | rfl | simp [Around.under, Code.weight, Code.isCreation, Code.isGuard, Code.isCaller, Code.frames, Code.isFrame, guardIds]
theorem Qk {A : Around} {C : Addr} {us : List Value} {kw : List (Str × Value)} : (A.under (.builtin "type.__call__" ⟨.ref C :: us, kw⟩)).units = A.units + 1 := by
 first | rfl | simp [Around.under, Code.cUnits, Code.frames, Code.isFrame]
theorem fK.make {k : Nat} {A : Around} (r : fK (k + 1) A) (C : Addr) (us : List Value) (kw : List (Str × Value)) : fK k (A.under (.builtin "type.__call__" ⟨.ref C :: us, kw⟩)) :=
 ⟨r.hd, by have := r.dp; rw [Qj]; omega, by have := r.un; rw [Qk]; omega⟩
theorem fK.depth {k : Nat} {A : Around} (r : fK k A) : A.depth < recursionLimit := by have := r.dp; omega
theorem fK.units {k : Nat} {A : Around} (r : fK k A) : A.units + 64 < cLine := by have := r.un; omega
def qT : TA := fun _ H Q => Q [] H
def adX (ta : TE) (tr : TA) : TA := fun σ H Q => ta σ H fun x H1 => tr σ H1 fun xs H2 => Q (x :: xs) H2
section
variable {X : Cx} {e : Expr} {es : List Expr} {te : TE} {t : TA} {pos : Pos}
theorem zB : PA X [] qT := fun _ _ _ _ H Q I h => Calls.spliced_nil ⟨[], H, I, .nil, h⟩
theorem zA (ha : PE X e te) (hr : PA X es t) (hs : starEach (e :: es) X.env = (false, eval e X.env) :: starEach es X.env := by rfl) : PA X (e :: es) (adX te t) := by
 intro pos pins s σ H Q I h
 rw [hs]
 show wpAny _ _ (spliced ((false, eval e X.env) :: backTo pos (starEach es X.env))) _ _ s
 refine Calls.spliced_cons (eY (ha pins s σ H _ I h) fun u s1 ⟨x, H1, I1, r1, q1⟩ => ?_)
 exact eY (hr pos pins s1 σ H1 _ I1 q1) fun us s2 ⟨xs, H2, I2, r2, q2⟩ => ⟨x :: xs, H2, I2, .cons r1 r2, q2⟩
def ao1 (t : TA) : TE := fun σ H Q => t σ H fun xs H1 => xs.length ≤ sizeLine ∧ ∀ p, H1 p = none → Q (.ref p) (upd H1 p (.tup xs))
def ao2 (t : TA) : TE := fun σ H Q => t σ H fun xs H1 => xs.length ≤ sizeLine ∧ ∀ p, H1 p = none → Q (.ref p) (upd H1 p (.lst xs))
theorem nq {x1} (h : PA X es t) : PE X (.Tuple es x1 pos) (ao1 t) := by
 intro pins s σ H Q I hq
 refine wpAny_Tuple_spliced (eY (h pos pins s σ H _ I hq) fun us s1 ⟨xs, H1, I1, r, z, q⟩ => ⟨by rw [← r.length]; exact z, ?_⟩)
 have hf : H1 s1.heap.objs.size = none := I1.hok.fresh (Nat.le_refl _)
 refine ⟨.ref s1.heap.objs.size, upd H1 s1.heap.objs.size (.tup xs), I1.laid (t' := s1.toks) (fun b u e => Heap.get?_push_of_some _ e) (Nat.le_refl _) ?_, rfl, q _ hf⟩
 exact ⟨z, us, r, ⟨_, Heap.get?_push_size _ rfl, rfl, _, rfl⟩⟩
theorem yZ (h : PA X es t) : PE X (.List es pos) (ao2 t) := by
 intro pins s σ H Q I hq
 refine wpAny_List_spliced (eY (h pos pins s σ H _ I hq) fun us s1 ⟨xs, H1, I1, r, z, q⟩ => ⟨by rw [← r.length]; exact z, ?_⟩)
 have hf : H1 s1.heap.objs.size = none := I1.hok.fresh (Nat.le_refl _)
 refine ⟨.ref s1.heap.objs.size, upd H1 s1.heap.objs.size (.lst xs), I1.laid (t' := s1.toks) (fun b u e => Heap.get?_push_of_some _ e) (Nat.le_refl _) ?_, rfl, q _ hf⟩
 exact ⟨z, us, 0, r, Heap.get?_push_size _ rfl⟩
end
abbrev Sp := List V → Hp → VK → XK → Prop
abbrev Ez := List Env → Hp → Shared → XK → Value → Shared → Prop
structure Fy (P : Program) (w : World) (K : PySem.W.Frag) (mg : Str → Option Value) (base : Heap) (A : Around) (outer : List Env) (s : Shared) (H : Hp) : Prop where
 frames : A.frames = some outer
 mod : Mod K mg base
 bs : ∀ b o, base.get? b = some o → s.heap.get? b = some o ∧ H b = none
 UL : base.objs.size ≤ s.heap.objs.size
 wz : s.heap.FunFrames base outer
 XN : ∀ b ∈ frs outer, H b = none
 hok : Dd P w H s.heap
 bare : AllBare s.gens
def CE (outer : List Env) (P : Program) (w : World) (H : Hp) (s : Shared) (Q : VK) (u : Value) (s' : Shared) : Prop :=
 ∃ v H', s'.os = s.os ∧ AllBare s'.gens ∧ Un (frs outer) [] H H' s.heap s'.heap ∧ Dd P w H' s'.heap ∧ RelV v u ∧ Q v H'
def CR (CX : Ez) (outer : List Env) (P : Program) (w : World) (H : Hp) (s : Shared) (Q : VK) (E : XK) (r : Result) (s' : Shared) : Prop :=
 match r with
 | .ok (.ret u) => CE outer P w H s Q u s'
 | .ok _ => False
 | .error e => CX outer H s E e s'
structure aF (P : Program) (w : World) (K : PySem.W.Frag) (mg : Str → Option Value) (base : Heap) (CX : Ez) (k : Nat) (f : Addr) (fd : FuncData) (ps : List Str) (sp : Sp) : Prop where
 len : ∀ vs H Q E, sp vs H Q E → vs.length = ps.length
 run : ∀ (A : Around) (outer : List Env) (s : Shared) (H : Hp) (args : Args) (us : List Value) (vs : List V) (Q : VK) (E : XK), fK k A → Fy P w K mg base A outer s H → BindsTo s fd args (ps.zip us) → Vals vs us → sp vs H Q E →
   codeAny (model P w) A (.call (.ref f) args) (CR CX outer P w H s Q E) s
theorem aF.mono {P : Program} {w : World} {K : PySem.W.Frag} {mg : Str → Option Value} {base : Heap} {CX : Ez} {j k : Nat} {f : Addr} {fd : FuncData} {ps : List Str} {sp : Sp} (F : aF P w K mg base CX j f fd ps sp) (h : j ≤ k) :
   aF P w K mg base CX k f fd ps sp := ⟨F.len, fun A outer s H args us vs Q E hr => F.run A outer s H args us vs Q E (hr.mono h)⟩
theorem aF.imp {P : Program} {w : World} {K : PySem.W.Frag} {mg : Str → Option Value} {base : Heap} {CX : Ez} {k : Nat} {f : Addr} {fd : FuncData} {ps : List Str} {sp Zw : Sp} (F : aF P w K mg base CX k f fd ps sp)
   (h : ∀ vs H Q E, Zw vs H Q E → sp vs H Q E) : aF P w K mg base CX k f fd ps Zw :=
 ⟨fun vs H Q E q => F.len vs H Q E (h _ _ _ _ q), fun A outer s H args us vs Q E hr he hb hv hs => F.run A outer s H args us vs Q E hr he hb hv (h _ _ _ _ hs)⟩
theorem Fy.make {P : Program} {w : World} {K : PySem.W.Frag} {mg : Str → Option Value} {base : Heap} {A : Around} {outer : List Env} {s : Shared} {H : Hp} (e : Fy P w K mg base A outer s H) (C : Addr) (us : List Value) (kw : List (Str × Value)) :
   Fy P w K mg base (A.under (.builtin "type.__call__" ⟨.ref C :: us, kw⟩)) outer s H := ⟨by first | exact e.frames | (simpa [Around.under, Code.envs, Code.isFrame, pushEnvs] using e.frames), e.mod, e.bs, e.UL, e.wz, e.XN, e.hok, e.bare⟩
theorem Fy.in1 {P : Program} {w : World} {K : PySem.W.Frag} {mg : Str → Option Value} {base : Heap} {A : Around} {outer : List Env} {s : Shared} {H : Hp} (e : Fy P w K mg base A outer s H) :
   Fy P w K mg base A.in1 outer s H := ⟨e.frames, e.mod, e.bs, e.UL, e.wz, e.XN, e.hok, e.bare⟩
section
variable {X : Cx} {pins : List (Addr × Obj)} {σ : St} {H : Hp} {s s' : Shared}
theorem Inv.env0 (I : Inv X pins σ H s) : Fy X.prog X.w X.K X.mg X.base X.A X.stack s H :=
 ⟨I.ok.frames, I.ok.mod, I.bs, Nat.le_trans I.ok.UL I.sz, I.stack, I.Ku, I.hok, I.bare⟩
theorem Inv.after {Q : VK} {u : Value} (I : Inv X pins σ H s) (h : CE X.stack X.prog X.w H s Q u s') : EP X pins σ Q u s' := by
 obtain ⟨v, H', os, bare, un, hok, r, q⟩ := h
 obtain ⟨hh, g, d, t, os'⟩ := s'
 obtain rfl : os' = s.os := os
 exact ⟨v, H', I.call (h' := hh) (g' := g) (d' := d) (t' := t) (ch := []) un hok bare (fun b z => absurd z (by simp)), r, q⟩
end
def Vd (sp : Sp) (nu : List V) (E : XK) (t : TA) : TE := fun σ H Q => t σ H fun vs H1 => sp (vs ++ nu) H1 Q E
def Zx (C : Addr) (sp : Sp) (nu : List V) (E : XK) (t : TA) : TE := fun σ H Q => t σ H fun vs H1 => ∀ x dx, H1 x = none → H1 dx = none → dx ≠ x →
 sp (.ref x :: (vs ++ nu)) (upd (upd H1 dx (.own x)) x (.ins C dx [])) (fun v H2 => v = .non ∧ Q (.ref x) H2) E
def Binds (K : PySem.W.Frag) (fd : FuncData) (ps : List Str) (ds : List Value) : Prop :=
 ∀ (s : Shared) (us : List Value), K.In s.heap → (us ++ ds).length = ps.length → BindsTo s fd ⟨us, []⟩ (ps.zip (us ++ ds))
theorem Binds.all {K : PySem.W.Frag} {fd : FuncData} {ps : List Str} (h : ∀ us : List Value, us.length = ps.length → bindArgs fd ⟨us, []⟩ = pure (ps.zip us)) : Binds K fd ps [] := fun s us _ hl => by
 rw [List.append_nil] at hl ⊢
 exact .of_eq (h us hl)
def Passes (CX : Ez) (X : Cx) (E : XK) : Prop := ∀ (pins : List (Addr × Obj)) (σ : St) (H : Hp) (s : Shared) (e : Value) (s' : Shared), Inv X pins σ H s → CX X.stack H s E e s' → X.xe e s'
section
variable {X : Cx} {CX : Ez} {k : Nat} {f C : Addr} {fd : FuncData} {ps : List Str} {sp : Sp} {nu : List V} {ds : List Value} {E : XK} {x m : Str} {p pos apos : Pos} {e o : Expr} {es : List Expr} {ta : TE} {t : TA}
theorem Ky {pins : List (Addr × Obj)} {σ : St} {H : Hp} {s : Shared} {Q : VK} {us : List Value} {vs : List V} (F : aF X.prog X.w X.K X.mg X.base CX k f fd ps sp) (hr : fK k X.A) (hb : Binds X.K fd ps ds) (hd : Vals nu ds) (hx : Passes CX X E)
   (I : Inv X pins σ H s) (r : Vals vs us) (h : sp (vs ++ nu) H Q E) : wpAny (model X.prog X.w) X.A (call (.ref f) us) (EP X pins σ Q) X.xe s := by
 have r2 : Vals (vs ++ nu) (us ++ ds) := r.append hd
 have hl : (us ++ ds).length = ps.length := by rw [← r2.length]; exact F.len _ _ _ _ h
 refine wpAny_call (codeAny_mono (F.run X.A X.stack s H ⟨us, []⟩ (us ++ ds) (vs ++ nu) Q E hr I.env0 (hb s us I.Ew hl) r2 h) fun r s' hq => ?_)
 cases r with
 | error e => exact hx pins σ H s e s' I hq
 | ok fl =>
   cases fl with
   | ret u => exact I.after hq
   | next => exact False.elim hq
   | brk => exact False.elim hq
   | cont => exact False.elim hq
theorem zI (F : aF X.prog X.w X.K X.mg X.base CX k f fd ps sp) (hr : fK k X.A) (hg : Gl X x) (hm : X.mg x = some (.ref f)) (hk : PySem.W.keepIn X.K (.ref f) = true) (hb : Binds X.K fd ps ds) (hd : Vals nu ds) (hx : Passes CX X E)
   (ha : PA X (e :: es) t) (hdb : (x == ("__debug__" : Str)) = false := by decide) (he : starEach (e :: es) X.env = (false, eval e X.env) :: starEach es X.env := by rfl) (hpl : (backTo pos (starEach es X.env)).any (·.1) = false := by rfl) :
   PE X (.Call (.Name x p) (e :: es) [] pos) (Vd sp nu E t) := by
 intro pins s σ H Q I h
 refine wpAny_Call_Name_kw (mG I hg hm ?_ hdb)
 refine PySem.W.callWith_K (h₀ := X.base) I.ok.mod.Xw hk (eY (ha pos pins s σ H _ I h) fun us s1 ⟨vs, H1, I1, r, q⟩ => ⟨I1.Ew, ?_⟩) he hpl
 exact Ky F hr hb hd hx I1 r q
structure Mk (K : PySem.W.Frag) (C f : Addr) : Prop where
 makes : PySem.W.makesIn K C = true
 init : PySem.W.findIn K (.ref C) "__init__" = some (some (.ref f))
 fn : PySem.W.isFn K (.ref f) = true
 kp : PySem.W.keepIn K (.ref C) = true
theorem M4 {pins : List (Addr × Obj)} {σ : St} {H : Hp} {s : Shared} {Q : VK} {us : List Value} {vs : List V} (M : Mk X.K C f) (F : aF X.prog X.w X.K X.mg X.base CX k f fd ps sp) (hr : fK (k + 1) X.A) (hb : Binds X.K fd ps ds) (hd : Vals nu ds)
   (hx : Passes CX X E) (I : Inv X pins σ H s) (r : Vals vs us)
   (h : ∀ x dx, H x = none → H dx = none → dx ≠ x → sp (.ref x :: (vs ++ nu)) (upd (upd H dx (.own x)) x (.ins C dx [])) (fun v H2 => v = .non ∧ Q (.ref x) H2) E) :
   wpAny (model X.prog X.w) X.A (call (.ref C) us) (EP X pins σ Q) X.xe s := by
 have hq := h (s.heap.objs.size + 1) s.heap.objs.size (I.hok.fresh (Nat.le_succ _)) (I.hok.fresh (Nat.le_refl _)) (Nat.ne_of_lt (Nat.lt_succ_self _))
 have I2 := Inv.made (C := C) I
 have r2 : Vals (V.ref (s.heap.objs.size + 1) :: (vs ++ nu)) (Value.ref (s.heap.objs.size + 1) :: (us ++ ds)) := .cons rfl (r.append hd)
 have hl : (Value.ref (s.heap.objs.size + 1) :: us ++ ds).length = ps.length := by
   have e := r2.length
   rw [F.len _ _ _ _ hq] at e
   exact e.symm
 refine wpAny_call (Vc (f := f) I.Ew M.makes M.init (beq_iff_eq.mp M.fn) (codeAny_mono (F.run _ X.stack _ _ ⟨Value.ref (s.heap.objs.size + 1) :: us, []⟩ (Value.ref (s.heap.objs.size + 1) :: (us ++ ds)) _ _ E (hr.make C us [])
   (I2.env0.make C us []) (hb _ (Value.ref (s.heap.objs.size + 1) :: us) I2.Ew hl) r2 hq) fun r s' hq' => ?_))
 cases r with
 | error e => exact hx pins σ _ _ e s' I2 hq'
 | ok fl =>
   cases fl with
   | ret u =>
     obtain ⟨v, H', I3, rv, ev, q3⟩ := I2.after hq'
     subst ev
     exact ⟨rv, ⟨V.ref (s.heap.objs.size + 1), H', I3, rfl, q3⟩⟩
   | next => exact False.elim hq'
   | brk => exact False.elim hq'
   | cont => exact False.elim hq'
theorem yU (M : Mk X.K C f) (F : aF X.prog X.w X.K X.mg X.base CX k f fd ps sp) (hr : fK (k + 1) X.A) (hg : Gl X x) (hm : X.mg x = some (.ref C)) (hb : Binds X.K fd ps ds) (hd : Vals nu ds) (hx : Passes CX X E)
   (ha : PA X (e :: es) t) (hdb : (x == ("__debug__" : Str)) = false := by decide) (he : starEach (e :: es) X.env = (false, eval e X.env) :: starEach es X.env := by rfl) (hpl : (backTo pos (starEach es X.env)).any (·.1) = false := by rfl) :
   PE X (.Call (.Name x p) (e :: es) [] pos) (Zx C sp nu E t) := by
 intro pins s σ H Q I h
 refine wpAny_Call_Name_kw (mG I hg hm ?_ hdb)
 refine PySem.W.callWith_K (h₀ := X.base) I.ok.mod.Xw M.kp (eY (ha pos pins s σ H _ I h) fun us s1 ⟨vs, H1, I1, r, q⟩ => ⟨I1.Ew, ?_⟩) he hpl
 exact M4 M F hr hb hd hx I1 r q
theorem Ve (M : Mk X.K C f) (F : aF X.prog X.w X.K X.mg X.base CX k f fd ps sp) (hr : fK (k + 1) X.A) (hg : Gl X x) (hm : X.mg x = some (.ref C)) (hb : Binds X.K fd ps ds) (hd : Vals nu ds) (hx : Passes CX X E)
   (hdb : (x == ("__debug__" : Str)) = false := by decide) : PE X (.Call (.Name x p) [] [] pos) (Zx C sp nu E qT) := by
 intro pins s σ H Q I h
 refine wpAny_Call_Name_kw (mG I hg hm ?_ hdb)
 exact PySem.W.callWith_K0 I.Ew M.kp (M4 (us := []) M F hr hb hd hx I .nil h)
end
section
variable {X : Cx} {CX : Ez} {k : Nat} {f C : Addr} {fd : FuncData} {ps ks : List Str} {sp : Sp} {E : XK} {x m : Str} {p pos apos azs : Pos} {e o : Expr} {es : List Expr} {kws : List Keyword} {te ta : TE} {t tk : TA} {nm : Option Str}
structure ao3 (K : PySem.W.Frag) (fd : FuncData) (ps ks : List Str) (g : List Value → List Value → List Value) (gV : List V → List V → List V) : Prop where
 to : ∀ (s : Shared) (us ws : List Value), K.In s.heap → (g us ws).length = ps.length → BindsTo s fd ⟨us, ks.zip ws⟩ (ps.zip (g us ws))
 rel : ∀ {vs : List V} {us : List Value} {zs : List V} {ws : List Value}, Vals vs us → Vals zs ws → Vals (gV vs zs) (g us ws)
variable {g : List Value → List Value → List Value} {gV : List V → List V → List V}
end
structure aq (N P : List Str) (sc : Scope) : Prop where
 kind : sc.kind = .function
 co : sc.isCoroutine = false
 gen : sc.isGenerator = false
 nd : N.Nodup
 pre : N.take P.length = P
 par : ∀ x ∈ P, sc.names.lookup x = some .local ∨ sc.names.lookup x = some .cell
 aaK : ∀ y ∈ sc.names, y.2 ≠ .free
theorem JL {kindOf : Str → Option NameKind} {x : Str} : ∀ {binds : List (Str × Value)} {m : Str → Option Value}, (∀ v, (x, v) ∉ binds) → bindL kindOf binds m x = m x
 | [], _, _ => rfl
 | (n, v) :: r, m, h => by
   unfold bindL
   rw [JL fun w hw => h w (List.mem_cons_of_mem _ hw)]
   split
   · have : x ≠ n := by rintro rfl; exact h v List.mem_cons_self
     simp [this]
   · rfl
theorem JM {kindOf : Str → Option NameKind} {x : Str} : ∀ {binds : List (Str × Value)} {m : Str → Option Value}, (∀ v, (x, v) ∉ binds) → bindC kindOf binds m x = m x
 | [], _, _ => rfl
 | (n, v) :: r, m, h => by
   unfold bindC
   rw [JM fun w hw => h w (List.mem_cons_of_mem _ hw)]
   split
   · rfl
   · have : x ≠ n := by rintro rfl; exact h v List.mem_cons_self
     simp [this]
theorem JN {kindOf : Str → Option NameKind} {x : Str} {v : Value} : ∀ {P : List Str} {vs : List Value} {i : Nat} {m : Str → Option Value}, P.Nodup → P[i]? = some x → vs[i]? = some v → kindOf x = some .local →
   bindL kindOf (P.zip vs) m x = some v
 | [], _, _, _, _, h, _, _ => by simp at h
 | _ :: _, [], _, _, _, _, h, _ => by simp at h
 | p :: P, w :: vs, 0, m, nd, h1, h2, hk => by
   simp at h1 h2; subst h1; subst h2
   show bindL kindOf ((p, w) :: P.zip vs) m p = _
   unfold bindL
   rw [JL fun v hv => (List.nodup_cons.mp nd).1 (List.of_mem_zip hv).1, if_pos hk]
   simp
 | p :: P, w :: vs, i + 1, m, nd, h1, h2, hk => by
   show bindL kindOf ((p, w) :: P.zip vs) m x = _
   unfold bindL
   exact JN (i := i) (List.nodup_cons.mp nd).2 (by simpa using h1) (by simpa using h2) hk
theorem JQ {kindOf : Str → Option NameKind} {x : Str} {v : Value} : ∀ {P : List Str} {vs : List Value} {i : Nat} {m : Str → Option Value}, P.Nodup → P[i]? = some x → vs[i]? = some v → kindOf x ≠ some .local →
   bindC kindOf (P.zip vs) m x = some v
 | [], _, _, _, _, h, _, _ => by simp at h
 | _ :: _, [], _, _, _, _, h, _ => by simp at h
 | p :: P, w :: vs, 0, m, nd, h1, h2, hk => by
   simp at h1 h2; subst h1; subst h2
   show bindC kindOf ((p, w) :: P.zip vs) m p = _
   unfold bindC
   rw [JM fun v hv => (List.nodup_cons.mp nd).1 (List.of_mem_zip hv).1, if_neg hk]
   simp
 | p :: P, w :: vs, i + 1, m, nd, h1, h2, hk => by
   show bindC kindOf ((p, w) :: P.zip vs) m x = _
   unfold bindC
   exact JQ (i := i) (List.nodup_cons.mp nd).2 (by simpa using h1) (by simpa using h2) hk
def start (N : List Str) (vs : List V) : St := vs.map some ++ List.replicate (N.length - vs.length) none
def jD (CX : Ez) (P : Program) (w : World) (K : PySem.W.Frag) (mg : Str → Option Value) (base : Heap) (N : List Str) (qual : Str) (scope : Scope) (f : Addr) (cd : Value) (A : Around) (outer : List Env) (s : Shared) (H : Hp) (E : XK) : Cx where
 prog := P
 w := w
 K := K
 mg := mg
 base := base
 A := A.deeper (envOfC qual scope s.heap.objs.size f cd)
 N := N
 s₀ := s
 H₀ := H
 env := envOfC qual scope s.heap.objs.size f cd
 outer := outer
 stack := envOfC qual scope s.heap.objs.size f cd :: outer
 ex := []
 calm := true
 fn := fun _ => true
 pn := []
 xe := fun e s' => wpAny (model P w) (A.deeper (envOfC qual scope s.heap.objs.size f cd)) (leaving (envOfC qual scope s.heap.objs.size f cd) e) (fun _ s'' => CX outer H s E e s'') (fun e' s'' => CX outer H s E e' s'') s'
theorem M5 {sc : Scope} {n : Nat} {x : Str} (h : sc.names.lookup x = some .cell) : ∃ c, (cellsFrom n sc.names []).lookup x = some c := by
 have q := PySem.W.cellsFrom_some sc.names n [] (.inl h)
 exact Option.isSome_iff_exists.mp q
theorem JR {CX : Ez} {P : Program} {w : World} {K : PySem.W.Frag} {mg : Str → Option Value} {base : Heap} {N ps : List Str} {qual : Str} {scope : Scope} {f : Addr} {cd : Value} {A : Around} {outer : List Env} {s s1 : Shared} {H : Hp} {E : XK} {us : List Value} {vs : List V}
   (S : aq N ps scope) (hd : A.handled = none) (e0 : Fy P w K mg base A outer s H) (hl : vs.length = ps.length) (r : Vals vs us)
   (x : InCallC s s.heap.objs.size (bindL (envOfC qual scope s.heap.objs.size f cd).kindOf (ps.zip us) fun _ => none) (cellsFrom (s.heap.objs.size + 1) scope.names []) (bindC (envOfC qual scope s.heap.objs.size f cd).kindOf (ps.zip us) fun _ => none) s1) :
   Inv (jD CX P w K mg base N qual scope f cd A outer s H E) [] (start N vs) H s1 := by
 have hpl : ps.length ≤ N.length := by have := congrArg List.length S.pre; rw [List.length_take] at this; omega
 obtain ⟨h1, tk, rfl, hk⟩ := x.done
 have noA : ∀ b : Addr, b ∉ (jD CX P w K mg base N qual scope f cd A outer s H E).ex := fun b z => absurd (show b ∈ ([] : List Addr) from z) (by simp)
 refine ⟨⟨e0.mod, S.kind, rfl, rfl, Nat.le_refl _, fun y z c h1 h2 => ?_, fun y hy => ?_, fun y c _ h => ?_, fun _ => hd, Around.frames_deeper e0.frames, .inr ⟨rfl, rfl⟩, fun b z => absurd z (noA b), e0.bs, e0.UL, fun b _ _ => noA b, fun b z => absurd z (noA b), e0.wz, e0.XN⟩,
   rfl, e0.bare, Un.kept hk, ⟨_, x.toInCall.ns, fun i y v h1 h2 h3 => ?_⟩, fun y c h => ⟨_, x.cell y c h⟩, e0.hok.fresh (Nat.le_refl _), fun y c h => ?_, fun p hp => absurd (show p ∈ ([] : List (Addr × Obj)) from hp) (by simp), e0.hok.kept hk, ?_⟩
 · exact name_of_addr x.apart (PySem.mem_of_lookup h1) (PySem.mem_of_lookup h2)
 · have hy : scope.names.lookup y = some .cell ∨ scope.names.lookup y = some .free := hy
   rcases hy with hy | hy
   · exact M5 hy
   · exact absurd rfl (S.aaK _ (PySem.mem_of_lookup hy))
 · exact Nat.le_of_lt (x.above y c (PySem.mem_of_lookup h))
 · have hi : i < vs.length := by
     unfold start at h2
     by_cases hi : i < vs.length
     · exact hi
     · rw [List.getElem?_append_right (by simpa using hi)] at h2
       rw [List.getElem?_replicate] at h2
       split at h2 <;> cases h2
   have ha : vs[i]? = some v := by
     unfold start at h2
     rw [List.getElem?_append_left (by simpa using hi), List.getElem?_map] at h2
     cases e : vs[i]? with
     | none => rw [e] at h2; cases h2
     | some a => rw [e] at h2; cases h2; rfl
   obtain ⟨u, hu, rv⟩ := r.get ha
   have hp : ps[i]? = some y := by
     rw [← S.pre, List.getElem?_take_of_lt (by omega)]; exact h1
   have ndP : ps.Nodup := by rw [← S.pre]; exact S.nd.sublist (List.take_sublist _ _)
   refine ⟨u, rv, ?_⟩
   rcases S.par y (List.mem_of_getElem? hp) with k | k
   · exact .inl ⟨k, JN ndP hp hu k⟩
   · obtain ⟨c, e⟩ := M5 (n := s.heap.objs.size + 1) k
     refine .inr ⟨.inl k, c, e, ?_⟩
     have q := x.cell y c e
     rw [JQ ndP hp hu (by show scope.names.lookup y ≠ _; rw [k]; decide)] at q
     exact q
 · exact e0.hok.fresh (Nat.le_of_lt (x.above y c (PySem.mem_of_lookup h)))
 · unfold start
   show _ = N.length
   rw [List.length_append, List.length_map, List.length_replicate]
   omega
theorem Rz {CX : Ez} {P : Program} {w : World} {K : PySem.W.Frag} {mg : Str → Option Value} {base : Heap} {k : Nat} {f : Addr} {name qual : Str} {params : Arguments} {body : List Stmt} {scope : Scope} {dV kV doc pm cdv ct oc : Value} {an od : Option Addr}
   {osl : Array (Option Value)} {N ps : List Str} {sp : Sp} (lk : K.lookup f = some ⟨oc, od, .func (PySem.W.fnOf name qual params body scope dV kV doc pm an cdv ct), osl⟩) (hcd : PySem.W.codeIn K cdv qual = true) (S : aq N ps scope)
   (len : ∀ vs H Q E, sp vs H Q E → vs.length = ps.length)
   (hbody : ∀ (A : Around) (outer : List Env) (s : Shared) (H : Hp) (vs : List V) (Q : VK) (E : XK), fK k (A.deeper (envOfC qual scope s.heap.objs.size f cdv)) → sp vs H Q E →
     ∃ t, jG (jD CX P w K mg base N qual scope f cdv A outer s H E) body t ∧ t { nx := fun _ H' => Q .non H', rt := Q } (start N vs) H) :
   aF P w K mg base CX (k + 1) f (PySem.W.fnOf name qual params body scope dV kV doc pm an cdv ct) ps sp := by
 refine ⟨len, fun A outer s H args us vs Q E hr e0 hb r hsp => ?_⟩
 have hl := len _ _ _ _ hsp
 have KX : K.In s.heap := e0.mod.Xw.keeps fun b o e => (e0.bs b o e).1
 have lim : s.heap.NoLimit := e0.mod.nolimit.keeps fun b o e => (e0.bs b o e).1
 have hkind : ∀ y ∈ ps.zip us, scope.names.lookup y.1 = some .local ∨ (scope.names.lookup y.1 = some .cell ∧ ((cellsFrom (s.heap.objs.size + 1) scope.names []).lookup y.1).isSome = true) := fun ⟨n, v⟩ hy => by
   rcases S.par n (List.of_mem_zip hy).1 with q | q
   · exact .inl q
   · exact .inr ⟨q, PySem.W.cellsFrom_some _ _ _ (.inl q)⟩
 refine codeAny_call_function hr.depth (KX _ _ lk) rfl S.co S.gen rfl (PySem.W.codeRec_of KX hcd) (hb _ _ _ _ ?_)
 refine wpAny_newFunctionEnv_cells S.kind hkind fun env he s1 x => ?_
 subst he
 refine ⟨lim.keeps x.toInCall.keep, codeAny_func ?_⟩
 obtain ⟨t, ht, hq⟩ := hbody A outer s H vs Q E (hr.deeper _) hsp
 have I : Inv (jD CX P w K mg base N qual scope f cdv A outer s H E) [] (start N vs) H s1 := JR S hr.hd e0 hl r x
 refine wpAny_mono (ht [] s1 (start N vs) H _ I hq) (fun fl s' hs => ?_) fun e s' hs => hs
 have fin : ∀ {σ' : St} {H' : Hp} {v : V} {u : Value}, Inv (jD CX P w K mg base N qual scope f cdv A outer s H E) [] σ' H' s' → RelV v u → Q v H' → CE outer P w H s Q u s' :=
   fun {σ' H' v u} J rv q => ⟨v, H', J.os, J.bare, J.base, J.hok, rv, q⟩
 cases fl with
 | ret u =>
   obtain ⟨v, σ', H', J, rv, q⟩ := hs
   exact fin J rv q
 | next =>
   obtain ⟨σ', H', J, q⟩ := hs
   exact fin (v := V.non) (u := Value.none) J rfl q
 | brk =>
   obtain ⟨_, _, _, q⟩ := hs
   exact False.elim q
 | cont =>
   obtain ⟨_, _, _, q⟩ := hs
   exact False.elim q
end L2
namespace L2
open PySem PySem.Spec PyProof.Rows
section
variable {X : Cx} {x : Str} {p pos : Pos} {e : Expr} {es : List Expr} {t : TA} {id T : String} {r : List V → Hp → VK → Prop}
def tCB (r : List V → Hp → VK → Prop) (t : TA) : TE := fun σ H Q => t σ H fun vs H1 => r vs H1 Q
theorem zR (hc : bL X (.builtin id) r) (hg : Gl X x) (hm : X.mg x = none) (hv : bootBuiltins x = some (.builtin id)) (ha : PA X (e :: es) t) (hn : x ≠ "__name__" := by decide) (hdb : (x == ("__debug__" : Str)) = false := by decide)
   (he : starEach (e :: es) X.env = (false, eval e X.env) :: starEach es X.env := by rfl) (hpl : (backTo pos (starEach es X.env)).any (·.1) = false := by rfl) : PE X (.Call (.Name x p) (e :: es) [] pos) (tCB r t) := by
 intro pins s σ H Q I h
 refine wpAny_Call_Name_kw (Fo I hg hm hv ?_ hn hdb)
 exact PyProof.Rows.callWith_builtin1 (eY (ha pos pins s σ H _ I h) fun us s1 ⟨vs, H1, I1, r1, q1⟩ => hc pins s1 σ H1 vs us Q I1 r1 q1) he hpl
theorem yL (hc : bL X (.type T) r) (hg : Gl X x) (hm : X.mg x = none) (hv : bootBuiltins x = some (.type T)) (ha : PA X (e :: es) t) (hn : x ≠ "__name__" := by decide) (hdb : (x == ("__debug__" : Str)) = false := by decide)
   (he : starEach (e :: es) X.env = (false, eval e X.env) :: starEach es X.env := by rfl) (hpl : (backTo pos (starEach es X.env)).any (·.1) = false := by rfl) : PE X (.Call (.Name x p) (e :: es) [] pos) (tCB r t) := by
 intro pins s σ H Q I h
 refine wpAny_Call_Name_kw (Fo I hg hm hv ?_ hn hdb)
 exact PyProof.Rows.callWith_type1 (eY (ha pos pins s σ H _ I h) fun us s1 ⟨vs, H1, I1, r1, q1⟩ => hc pins s1 σ H1 vs us Q I1 r1 q1) he hpl
end
end L2
namespace HT
open PySem PyProof.Rows
section
open PySem.SeqAt
open PySem.AutoSeq1 (wpAny_loadPart')
open PySem.MeetsSeq PySem.MeetsSeq2 PySem.MeetsSeq3
end
section
variable {prog : Program} {w : World} {A : Around} {E : Value → Shared → Prop} {s : Shared}
def tH (n d : Nat) : Option Int → Nat
 | none => d
 | some v => if v < 0 then (v + (n : Int)).toNat else min v.toNat n
theorem X5 (n d k : Nat) : tH n d (some (k : Int)) = min k n := by
 show (if (k : Int) < 0 then ((k : Int) + (n : Int)).toNat else min (k : Int).toNat n) = min k n
 rw [if_neg (by omega), Int.toNat_natCast]
theorem aaL (n d : Nat) (hd : d ≤ n) (o : Option Int) : tH n d o ≤ n := by
 cases o with
 | none => exact hd
 | some v =>
   show (if v < 0 then (v + (n : Int)).toNat else min v.toNat n) ≤ n
   by_cases hv : v < 0
   · rw [if_pos hv]; omega
   · rw [if_neg hv]; exact Nat.min_le_right _ _
end
end HT
namespace L2
open PySem PySem.Spec PyProof.Rows
abbrev TO := St → Hp → (Option Int → Hp → Prop) → Prop
def PO (X : Cx) (e : Option Expr) (t : TO) : Prop :=
 ∀ (pins : List (Addr × Obj)) (s : Shared) (σ : St) (H : Hp) (Q : Option Int → Hp → Prop), Inv X pins σ H s → t σ H Q →
   wpAny (model X.prog X.w) X.A (evalPart e X.env) (fun u s' => ∃ o H', Inv X pins σ H' s' ∧ IsPart u o ∧ Q o H') X.xe s
def Kz : TO := fun _ H Q => Q none H
def Vf (t : TE) : TO := fun σ H Q => t σ H fun x H1 => ∃ i, x = .int i ∧ Q (some i) H1
section
variable {X : Cx} {e : Expr} {te : TE} {lo hi : Option Expr} {tl th : TO} {pos p2 : Pos}
theorem xG : PO X none Kz := by
 intro pins s σ H Q I h
 rw [evalPart_none]
 exact wpAny_pure ⟨none, H, I, .none, h⟩
theorem xA (h : PE X e te) : PO X (some e) (Vf te) := by
 intro pins s σ H Q I hw
 rw [evalPart_some]
 refine eY (h pins s σ H _ I hw) fun u s1 ⟨x, H1, I1, r1, q1⟩ => ?_
 obtain ⟨i, rfl, q⟩ := q1
 obtain ⟨t, rfl⟩ := r1
 exact ⟨some i, H1, I1, .int i t, q⟩
def sy (X : Cx) (r : V → Option Int → Option Int → Hp → VK → Prop) : Prop :=
 ∀ (pins : List (Addr × Obj)) (s : Shared) (σ : St) (H : Hp) (x : V) (v vl vu : Value) (lo hi : Option Int) (sl : Addr) (Q : VK), Inv X pins σ H s → RelV x v → s.heap.IsSliceOf sl vl vu .none → IsPart vl lo → IsPart vu hi → r x lo hi H Q →
   ∃ T id, typeLookup (.type T) "__getitem__" = pure (some (.builtin id)) ∧ s.TypeIs v T ∧ wpAny (model X.prog X.w) X.A (getItem v (.ref sl)) (EP X pins σ Q) X.xe s
theorem sy.or {r r' : V → Option Int → Option Int → Hp → VK → Prop} (h : sy X r) (h' : sy X r') : sy X (fun x lo hi H Q => r x lo hi H Q ∨ r' x lo hi H Q) := by
 intro pins s σ H x v vl vu lo hi sl Q I rx hs pl pu q
 rcases q with q | q
 · exact h pins s σ H x v vl vu lo hi sl Q I rx hs pl pu q
 · exact h' pins s σ H x v vl vu lo hi sl Q I rx hs pl pu q
def tSl (r : V → Option Int → Option Int → Hp → VK → Prop) (te : TE) (tl th : TO) : TE := fun σ H Q => te σ H fun x H1 => tl σ H1 fun l H2 => th σ H2 fun u H3 => r x l u H3 Q
theorem yW {r : V → Option Int → Option Int → Hp → VK → Prop} (hr : sy X r) (he : PE X e te) (hl : PO X lo tl) (hu : PO X hi th) : PE X (.Subscript e (.Slice lo hi none p2) pos) (tSl r te tl th) := by
 intro pins s σ H Q I h
 refine Subscript_ (eY (he pins s σ H _ I h) fun v s1 ⟨x, H1, I1, r1, q1⟩ => ?_)
 refine wpAny_Slice (eY (hl pins s1 σ H1 _ I1 q1) fun vl s2 ⟨l, H2, I2, pl, q2⟩ => eY (hu pins s2 σ H2 _ I2 q2) fun vu s3 ⟨u, H3, I3, pu, q3⟩ => ?_)
 rw [evalPart_none]
 refine wpAny_pure ?_
 have I4 : Inv X pins σ H3 { s3 with heap := s3.heap.push { cls := .type "slice", data := .fields #[vl, vu, .none] } } := I3.kept (t' := s3.toks) fun b ob q => Heap.get?_push_of_some _ q
 obtain ⟨T, id, hT, ht, hg⟩ := hr pins { s3 with heap := s3.heap.push { cls := .type "slice", data := .fields #[vl, vu, .none] } } σ H3 x v vl vu l u s3.heap.objs.size Q I4 r1 (Heap.IsSliceOf.new ..) pl pu q3
 show wpAny (model X.prog X.w) X.A (subscriptTail e (.Slice lo hi none p2) v (.ref s3.heap.objs.size)) (EP X pins σ Q) X.xe { s3 with heap := s3.heap.push { cls := .type "slice", data := .fields #[vl, vu, .none] } }
 exact tail_any (ops := [.ref s3.heap.objs.size, v]) ht hT hg (by with_unfolding_all rfl)
def Il (xs : List V) (lo hi : Option Int) : List V := (xs.drop (HT.tH xs.length 0 lo)).take (HT.tH xs.length xs.length hi - HT.tH xs.length 0 lo)
theorem M6 (xs : List V) (lo hi : Option Int) : (Il xs lo hi).length ≤ xs.length := by
 unfold Il
 rw [List.length_take, List.length_drop]
 omega
end
end L2
namespace L2
open PySem PySem.Spec PyProof.Rows
def ixN (n : Nat) (i : Int) : Option Nat := if 0 ≤ i then (if i < n then some i.toNat else none) else if -(n : Int) ≤ i then some (i + n).toNat else none
def wB {α : Type} (xs : List α) (i : Int) : Option α := (ixN xs.length i).bind fun j => xs[j]?
theorem X6 {n : Nat} {i : Int} {j : Nat} (h : ixN n i = some j) : seqIndex? i n = some j ∧ j < n ∧ -(n : Int) ≤ i ∧ i < n := by
 unfold ixN at h
 by_cases h0 : 0 ≤ i
 · rw [if_pos h0] at h
   by_cases h1 : i < n
   · rw [if_pos h1] at h
     have e : i.toNat = j := Option.some.inj h
     exact ⟨by rw [seqIndex_of h0 h1, e], by omega, by omega, h1⟩
   · rw [if_neg h1] at h; cases h
 · rw [if_neg h0] at h
   by_cases h1 : -(n : Int) ≤ i
   · rw [if_pos h1] at h
     have e : (i + n).toNat = j := Option.some.inj h
     exact ⟨by rw [seqIndex_neg (by omega) h1, e], by omega, h1, by omega⟩
   · rw [if_neg h1] at h; cases h
theorem KC {α : Type} {xs : List α} {i : Int} {v : α} (h : wB xs i = some v) : ∃ j, seqIndex? i xs.length = some j ∧ xs[j]? = some v ∧ j < xs.length ∧ -(xs.length : Int) ≤ i ∧ i < xs.length := by
 unfold wB at h
 cases e : ixN xs.length i with
 | none => rw [e] at h; cases h
 | some j =>
   rw [e] at h
   obtain ⟨h1, h2, h3, h4⟩ := X6 e
   exact ⟨j, h1, h, h2, h3, h4⟩
theorem yG {α : Type} {xs : List α} {j : Nat} {v : α} (h : xs[j]? = some v) : wB xs (j : Int) = some v := by
 have hj : j < xs.length := (List.getElem?_eq_some_iff.mp h).1
 have e : ixN xs.length (j : Int) = some j := by
   unfold ixN
   rw [if_pos (by omega), if_pos (by omega)]; simp
 unfold wB; rw [e]; exact h
def X7 (b : Expr) : Prop := ∀ o i, subscripted b false o i = operate [o, i] (getItem o i)
def qU (X : Cx) (r : R2) : Prop :=
 ∀ (value slice : Expr) (pins : List (Addr × Obj)) (s : Shared) (σ : St) (H : Hp) (x y : V) (v u : Value) (Q : VK), Inv X pins σ H s → RelV x v → RelV y u → r x y H Q →
   subscripted slice false v u = operate [v, u] (getItem v u) → wpAny (model X.prog X.w) X.A (subscriptTail value slice v u) (EP X pins σ Q) X.xe s
def MtR (X : Cx) (id : String) (r : V → List V → Hp → VK → Prop) : Prop :=
 ∀ (pins : List (Addr × Obj)) (s : Shared) (σ : St) (H : Hp) (x : V) (xs : List V) (v : Value) (us : List Value) (Q : VK), Inv X pins σ H s → RelV x v → Vals xs us → r x xs H Q →
   wpAny (model X.prog X.w) X.A (call (.builtin id) (v :: us)) (EP X pins σ Q) X.xe s
section
variable {X : Cx} {a b : Expr} {ta tb : TE} {pos : Pos}
theorem qU.or {r r' : R2} (h : qU X r) (h' : qU X r') : qU X (fun x y H Q => r x y H Q ∨ r' x y H Q) := by
 intro value slice pins s σ H x y v u Q I rx ry q hs
 rcases q with q | q
 · exact h value slice pins s σ H x y v u Q I rx ry q hs
 · exact h' value slice pins s σ H x y v u Q I rx ry q hs
theorem MtR.or {id : String} {r r' : V → List V → Hp → VK → Prop} (h : MtR X id r) (h' : MtR X id r') : MtR X id (fun x xs H Q => r x xs H Q ∨ r' x xs H Q) := by
 intro pins s σ H x xs v us Q I rx rs q
 rcases q with q | q
 · exact h pins s σ H x xs v us Q I rx rs q
 · exact h' pins s σ H x xs v us Q I rx rs q
theorem yC {r : R2} (hr : qU X r) (ha : PE X a ta) (hb : PE X b tb) (hs : X7 b) : PE X (.Subscript a b pos) (XS r ta tb) := by
 intro pins s σ H Q I h
 exact Subscript_ (aaH ha hb I h fun v u s2 x y H2 I2 rx ry q => hr a b pins s2 σ H2 x y v u Q I2 rx ry q (hs _ _))
def ao5 (K : PySem.W.Frag) : R2 := fun x y H Q => ∃ p xs i v, x = .ref p ∧ y = .int i ∧ bz K H p xs ∧ wB xs i = some v ∧ Q v H
def ao6 (K : PySem.W.Frag) : R2 := fun x y H Q => ∃ p xs i v, x = .ref p ∧ y = .int i ∧ lG K H p xs ∧ wB xs i = some v ∧ Q v H
def ao7 : R2 := fun x y H Q => ∃ z i c, x = .str z ∧ y = .int i ∧ z.length ≤ sizeLine ∧ wB z.cps.toList i = some c ∧ Q (.str ⟨#[c]⟩) H
theorem zU : qU X (ao5 X.K) := by
 intro value slice pins s σ H x y v u Q I rx ry h hs
 obtain ⟨p, xs, i, z, rfl, rfl, hq, he, q⟩ := h
 cases rx
 obtain ⟨t, rfl⟩ := ry
 obtain ⟨its, r, pl, hz⟩ := I.list hq
 obtain ⟨j, h1, h2, h3, h4, h5⟩ := KC he
 obtain ⟨w, ew, rw'⟩ := r.get h2
 have hl := r.length
 have hn := Ft
 have fin : EP X pins σ Q w s := ⟨z, H, I, rw', q⟩
 by_cases h0 : 0 ≤ i
 · have hj : i.toNat = j := by
     rw [seqIndex_of h0 h5] at h1
     exact Option.some.inj h1
   exact item_listR pl.isList h0 (by omega) (by rw [hj]; simpa using ew) fin hs
 · have hj : (i + (its.toArray.size : Int)).toNat = j := by
     rw [seqIndex_neg (by omega) h4] at h1
     rw [List.size_toArray, ← hl]
     exact Option.some.inj h1
   exact subscriptTail_builtinR (x := w) pl.isList.typeIs slot_list_getitem.lookup
     (wpAny_getItem_list_neg (Q := fun r s' => r = w ∧ EP X pins σ Q r s') pl.isList (by omega) (by rw [List.size_toArray] <;> omega) (by omega) (by rw [hj]; simpa using ew) ⟨rfl, fin⟩) hs
theorem wC : qU X (ao6 X.K) := by
 intro value slice pins s σ H x y v u Q I rx ry h hs
 obtain ⟨p, xs, i, z, rfl, rfl, hq, he, q⟩ := h
 cases rx
 obtain ⟨t, rfl⟩ := ry
 obtain ⟨its, r, pl, hz⟩ := I.tuple hq
 obtain ⟨j, h1, h2, h3, h4, h5⟩ := KC he
 obtain ⟨w, ew, rw'⟩ := r.get h2
 have hl := r.length
 have hn := Ft
 have fin : EP X pins σ Q w s := ⟨z, H, I, rw', q⟩
 exact subscriptTail_builtinR (x := w) pl.typeIs slot_tuple_getitem.lookup
   (getItem_tuple (j := j) (Q := fun r s' => r = w ∧ EP X pins σ Q r s') pl (by omega) (by omega) (by rw [List.size_toArray, ← hl]; exact h1) (by simpa using ew) ⟨rfl, fin⟩) hs
theorem Vg : qU X ao7 := by
 intro value slice pins s σ H x y v u Q I rx ry h hs
 obtain ⟨z, i, c, rfl, rfl, hz, he, q⟩ := h
 obtain ⟨t, rfl⟩ := rx
 obtain ⟨t', rfl⟩ := ry
 obtain ⟨j, h1, h2, h3, h4, h5⟩ := KC he
 have hl : z.cps.toList.length = z.length := by simp [Str.length]
 rw [hl] at h1 h4 h5
 have hn := Ft
 exact tail_any (typeIs_str s z t) slot_str_getitem.lookup (getItem_str (c := c) (by
   have e1 : decide (i < -(2 ^ 63 : Int)) = false := decide_eq_false (by omega)
   have e2 : decide (i ≥ 2 ^ 63) = false := decide_eq_false (by omega)
   rw [e1, e2, Bool.or_false]) (by rw [h1]; simpa using h2) ⟨.str ⟨#[c]⟩, H, I.tok _, ⟨_, rfl⟩, q⟩) hs
theorem Inv.lst {pins : List (Addr × Obj)} {σ : St} {H : Hp} {s : Shared} {p : Addr} {xs : List V} (I : Inv X pins σ H s) (h : H p = some (.lst xs)) :
   ∃ (its : List Value) (n : Nat), Vals xs its ∧ s.heap.get? p = some { cls := .type "list", data := .seq its.toArray n } ∧ xs.length ≤ sizeLine := by
 obtain ⟨z, its, n, r, e⟩ := I.hok p _ h
 exact ⟨its, n, r, e, z⟩
theorem KD (lo hi : Option Int) (n : Nat) : (sliceBounds lo hi none n).1 = ((HT.tH n 0 lo : Nat) : Int) ∧ (sliceBounds lo hi none n).2.1 = ((HT.tH n n hi : Nat) : Int) ∧ (sliceBounds lo hi none n).2.2 = 1 := by
 refine ⟨?_, ?_, rfl⟩
 · cases lo with
   | none => simp [sliceBounds, HT.tH]
   | some i =>
     simp only [sliceBounds, HT.tH, Option.getD_none, show (1 : Int) > 0 by decide, if_true]
     by_cases h : i < 0
     · simp only [h, if_true] <;> omega
     · simp only [h, if_false] <;> omega
 · cases hi with
   | none => simp [sliceBounds, HT.tH]
   | some i =>
     simp only [sliceBounds, HT.tH, Option.getD_none, show (1 : Int) > 0 by decide, if_true]
     by_cases h : i < 0
     · simp only [h, if_true] <;> omega
     · simp only [h, if_false] <;> omega
theorem Im (its : List Value) (lo hi : Option Int) : slicePick its.toArray lo hi none = ((its.drop (HT.tH its.length 0 lo)).take (HT.tH its.length its.length hi - HT.tH its.length 0 lo)).toArray := by
 obtain ⟨h1, h2, h3⟩ := KD lo hi its.toArray.size
 unfold slicePick
 rw [h1, h2, h3]
 simp only [sliceRange_one, pick_run, List.size_toArray] <;> rfl
def ao9 (K : PySem.W.Frag) : V → Option Int → Option Int → Hp → VK → Prop := fun x lo hi H Q => ∃ a xs, x = .ref a ∧ bz K H a xs ∧ ∀ p, H p = none → Q (.ref p) (upd H p (.lst (Il xs lo hi)))
theorem EY : sy X (ao9 X.K) := by
 intro pins s σ H x v vl vu lo hi sl Q I rx hs pl pu h
 obtain ⟨a, xs, rfl, hx, q⟩ := h
 cases rx
 obtain ⟨its, r, ht, hz⟩ := I.list hx
 have hlen := r.length
 refine ⟨"list", _, slot_list_getitem.lookup, ht.isList.typeIs, ?_⟩
 refine wpAny_getItem_list_slice ht.isList hs pl pu .none (by simp) ?_ (by rw [List.size_toArray] <;> omega)
 rw [Im, ← hlen]
 refine ⟨.ref s.heap.objs.size, _, I.laid (t' := s.toks) (o := .lst (Il xs lo hi)) (fun b ob q => Heap.get?_push_of_some _ q) (Nat.le_refl _) ?_, rfl, q _ (I.hok.fresh (Nat.le_refl _))⟩
 exact ⟨Nat.le_trans (M6 xs lo hi) hz, _, 0, (r.drop (HT.tH xs.length 0 lo)).take (HT.tH xs.length xs.length hi - HT.tH xs.length 0 lo), Heap.get?_push_size _ rfl⟩
def gw : V → Bool
 | .non => true
 | .bl _ => true
 | .int _ => true
 | .str _ => true
 | _ => false
def Ti : V → V → Bool
 | .non, .non => true
 | .bl a, .bl b => a == b
 | .bl a, .int b => (if a then 1 else 0) == b
 | .int a, .bl b => a == (if b then 1 else 0)
 | .int a, .int b => a == b
 | .str a, .str b => a == b
 | _, _ => false
theorem Vh {A : Around} {s : Shared} {y x : V} {u v : Value} (ry : RelV y u) (rx : RelV x v) (fy : gw y = true) (fx : gw x = true) : SeqAt.EqAt A s u v (Ti y x) := by
 cases y with
 | non =>
   cases ry
   cases x with
   | non => cases rx; exact SeqAt.EqAt.same _
   | bl b => cases rx; exact SeqAt.EqAt.none_bool b
   | int b => obtain ⟨t, rfl⟩ := rx; exact SeqAt.EqAt.none_int b t
   | str b => obtain ⟨t, rfl⟩ := rx; exact SeqAt.EqAt.none_str b t
   | _ => exact absurd (show false = true from fx) Bool.false_ne_true
 | bl a =>
   cases ry
   cases x with
   | non => cases rx; exact SeqAt.EqAt.bool_none a
   | bl b => cases rx; exact SeqAt.EqAt.bool_bool a b
   | int b => obtain ⟨t, rfl⟩ := rx; exact SeqAt.EqAt.bool_int a b t
   | str b => obtain ⟨t, rfl⟩ := rx; exact SeqAt.EqAt.bool_str a b t
   | _ => exact absurd (show false = true from fx) Bool.false_ne_true
 | int a =>
   obtain ⟨t', rfl⟩ := ry
   cases x with
   | non => cases rx; exact SeqAt.EqAt.int_none a t'
   | bl b => cases rx; exact SeqAt.EqAt.int_bool a t' b
   | int b => obtain ⟨t, rfl⟩ := rx; exact SeqAt.EqAt.int_int a t' b t
   | str b => obtain ⟨t, rfl⟩ := rx; exact SeqAt.EqAt.int_str a t' b t
   | _ => exact absurd (show false = true from fx) Bool.false_ne_true
 | str a =>
   obtain ⟨t', rfl⟩ := ry
   cases x with
   | non => cases rx; exact SeqAt.EqAt.str_none a t'
   | bl b => cases rx; exact SeqAt.EqAt.str_bool a t' b
   | int b => obtain ⟨t, rfl⟩ := rx; exact SeqAt.EqAt.str_int a t' b t
   | str b => obtain ⟨t, rfl⟩ := rx; exact SeqAt.EqAt.str_str a t' b t
   | _ => exact absurd (show false = true from fx) Bool.false_ne_true
 | _ => exact absurd (show false = true from fy) Bool.false_ne_true
def Ql (x : V) (u : Value) : Bool := match u with
 | .none => Ti .non x
 | .bool b => Ti (.bl b) x
 | .int i _ => Ti (.int i) x
 | .str z _ => Ti (.str z) x
 | _ => false
theorem Vi {x y : V} {u : Value} (r : RelV y u) (f : gw y = true) : Ql x u = Ti y x := by
 cases y with
 | non => cases r; rfl
 | bl b => cases r; rfl
 | int i => obtain ⟨t, rfl⟩ := r; rfl
 | str z => obtain ⟨t, rfl⟩ := r; rfl
 | _ => exact absurd (show false = true from f) Bool.false_ne_true
theorem xZ {x : V} : ∀ {xs : List V} {us : List Value}, Vals xs us → xs.all gw = true → us.any (Ql x) = xs.any fun y => Ti y x
 | _, _, .nil, _ => rfl
 | y :: xs, u :: us, .cons r t, f => by
   rw [List.all_cons, Bool.and_eq_true] at f
   rw [List.any_cons, List.any_cons, Vi r f.1, xZ t f.2]
theorem tK {A : Around} {s : Shared} {x : V} {v : Value} (rx : RelV x v) (fx : gw x = true) : ∀ {xs : List V} {us : List Value}, Vals xs us → xs.all gw = true → ∀ u ∈ us, SeqAt.EqAt A s u v (Ql x u)
 | _, _, .nil, _ => fun u hu => by cases hu
 | y :: xs, u :: us, .cons r t, f => fun u' hu => by
   rw [List.all_cons, Bool.and_eq_true] at f
   rcases List.mem_cons.mp hu with rfl | hu
   · rw [Vi r f.1]; exact Vh r rx f.1 fx
   · exact tK rx fx t f.2 u' hu
def inV (x : V) (xs : List V) : Bool := xs.any fun y => Ti y x
def rIn (K : PySem.W.Frag) (neg : Bool) : R2 := fun x y H Q => ∃ p xs, y = .ref p ∧ (bz K H p xs ∨ lG K H p xs) ∧ gw x = true ∧ xs.all gw = true ∧ Q (.bl (if neg then !inV x xs else inV x xs)) H
theorem pY : ir X (compareOp .In) (rIn X.K false) := by
 intro pins s σ H x y v u Q I rx ry h
 obtain ⟨p, xs, rfl, hq, fx, fs, q⟩ := h
 cases ry
 rcases hq with hq | hq
 · obtain ⟨its, r, pl, hz⟩ := I.list hq
   refine SeqAt.in_listAt (Ql x) pl.isList (fun w hw => tK rx fx r fs w (by simpa using hw)) ⟨.bl _, H, I, rfl, ?_⟩
   rw [show its.toArray.any (Ql x) = its.any (Ql x) by simp, xZ r fs]
   exact q
 · obtain ⟨its, r, pl, hz⟩ := I.tuple hq
   refine SeqAt.in_tupleAt (Ql x) pl (fun w hw => tK rx fx r fs w (by simpa using hw)) ⟨.bl _, H, I, rfl, ?_⟩
   rw [show its.toArray.any (Ql x) = its.any (Ql x) by simp, xZ r fs]
   exact q
theorem KH : ir X (compareOp .NotIn) (rIn X.K true) := by
 intro pins s σ H x y v u Q I rx ry h
 obtain ⟨p, xs, rfl, hq, fx, fs, q⟩ := h
 cases ry
 rcases hq with hq | hq
 · obtain ⟨its, r, pl, hz⟩ := I.list hq
   refine SeqAt.notIn_listAt (Ql x) pl.isList (fun w hw => tK rx fx r fs w (by simpa using hw)) ⟨.bl _, H, I, rfl, ?_⟩
   rw [show its.toArray.any (Ql x) = its.any (Ql x) by simp, xZ r fs]
   exact q
 · obtain ⟨its, r, pl, hz⟩ := I.tuple hq
   refine SeqAt.notIn_tupleAt (Ql x) pl (fun w hw => tK rx fx r fs w (by simpa using hw)) ⟨.bl _, H, I, rfl, ?_⟩
   rw [show its.toArray.any (Ql x) = its.any (Ql x) by simp, xZ r fs]
   exact q
theorem yI : bL X (.builtin "len") (fun xs H Q => ∃ p ys, xs = [.ref p] ∧ (bz X.K H p ys ∨ lG X.K H p ys) ∧ Q (.int ys.length) H) := by
 intro pins s σ H xs us Q I r h
 obtain ⟨p, ys, rfl, hq, q⟩ := h
 obtain ⟨u, rfl, rx⟩ := vals1 r
 cases rx
 have hn := Ft
 rcases hq with hq | hq
 · obtain ⟨its, r', pl, hz⟩ := I.list hq
   have hlen := r'.length
   exact Calls.call_len_list pl.isList (by simp only [List.size_toArray] <;> omega) ⟨.int ys.length, H, I.tok _, ⟨s.toks + 1, by rw [List.size_toArray, hlen]⟩, q⟩
 · obtain ⟨its, r', pl, hz⟩ := I.tuple hq
   have hlen := r'.length
   exact len_tuple pl (by simp only [List.size_toArray] <;> omega) ⟨.int ys.length, H, I.tok _, ⟨s.toks + 1, by rw [List.size_toArray, hlen]⟩, q⟩
theorem xS : bL X (.builtin "len") (fun xs H Q => ∃ z, xs = [.str z] ∧ z.length ≤ sizeLine ∧ Q (.int z.length) H) := by
 intro pins s σ H xs us Q I r h
 obtain ⟨z, rfl, hz, q⟩ := h
 obtain ⟨u, rfl, t, rfl⟩ := vals1 r
 have hn := Ft
 exact len_str (by omega) ⟨.int z.length, H, I.tok _, ⟨_, rfl⟩, q⟩
theorem bL.or {f : Value} {r r' : List V → Hp → VK → Prop} (h : bL X f r) (h' : bL X f r') : bL X f (fun xs H Q => r xs H Q ∨ r' xs H Q) := by
 intro pins s σ H xs us Q I rs q
 rcases q with q | q
 · exact h pins s σ H xs us Q I rs q
 · exact h' pins s σ H xs us Q I rs q
theorem xB : bL X (.type "list") (fun xs H Q => ∃ p ys, xs = [.ref p] ∧ (bz X.K H p ys ∨ lG X.K H p ys) ∧ ∀ l, H l = none → Q (.ref l) (upd H l (.lst ys))) := by
 intro pins s σ H xs us Q I r h
 obtain ⟨p, ys, rfl, hq, q⟩ := h
 obtain ⟨u, rfl, rx⟩ := vals1 r
 cases rx
 have fin : ∀ (its : List Value), Vals ys its → ys.length ≤ sizeLine → ∀ (h' : Heap) (c' : Nat), (∀ b o', s.heap.get? b = some o' → h'.get? b = some o') →
     h'.get? s.heap.objs.size = some { cls := .type "list", dict := none, data := .seq its.toArray c', slots := #[] } → EP X pins σ Q (.ref s.heap.objs.size) { s with heap := h' } := fun its r' hz h' c' kp e =>
   ⟨.ref s.heap.objs.size, _, I.laid (t' := s.toks) kp (Nat.le_refl _) (show gr X.prog X.w _ h' _ (.lst ys) from ⟨hz, its, c', r', e⟩), rfl, q _ (I.hok.fresh (Nat.le_refl _))⟩
 rcases hq with hq | hq
 · obtain ⟨its, r', pl, hz⟩ := I.list hq
   have hlen := r'.length
   obtain ⟨o, ho, hc, n, hd⟩ := pl.isList
   exact call_list_seq p (.inl rfl) ho hc hd (fun h' c' kp e => fin its r' hz h' c' kp e) (by simp only [List.size_toArray] <;> omega)
 · obtain ⟨its, r', pl, hz⟩ := I.tuple hq
   have hlen := r'.length
   obtain ⟨o, ho, hc, n, hd⟩ := pl
   exact call_list_seq p (.inr rfl) ho hc hd (fun h' c' kp e => fin its r' hz h' c' kp e) (by simp only [List.size_toArray] <;> omega)
def tyV (K : PySem.W.Frag) (T : String) (x : V) (H : Hp) : Prop := match x with
 | .str _ => T = "str"
 | .int _ => T = "int"
 | .ref p => (T = "list" ∧ ∃ xs, bz K H p xs) ∨ (T = "tuple" ∧ ∃ o, K.lookup p = some o ∧ o.cls = .type "tuple" ∧ o.dict = none) ∨
     (T = "dict" ∧ ((∃ kvs, H p = some (.dK kvs)) ∨ ∃ kvs, H p = some (.dT kvs))) ∨ (T = "set" ∧ ∃ S n, H p = some (.set S n))
 | _ => False
theorem aaM {pins : List (Addr × Obj)} {σ : St} {H : Hp} {s : Shared} {T : String} {x : V} {v : Value} (I : Inv X pins σ H s) (r : RelV x v) (ty : tyV X.K T x H) :
   s.TypeIs v T ∧ ∀ a, v = .ref a → ∃ ob, s.heap.get? a = some ob ∧ ob.dict = none := by
 cases x with
 | str z =>
   obtain ⟨t, rfl⟩ := r
   cases (show T = "str" from ty)
   exact ⟨typeIs_str s z t, fun _ e => nomatch e⟩
 | int i =>
   obtain ⟨t, rfl⟩ := r
   cases (show T = "int" from ty)
   exact ⟨typeIs_int s i t, fun _ e => nomatch e⟩
 | ref p =>
   cases r
   rcases ty with ⟨rfl, xs, hq⟩ | ⟨rfl, o, hk, hc, hd⟩ | ⟨rfl, hk⟩ | ⟨rfl, S, n, hk⟩
   · obtain ⟨its, _, pl, _⟩ := I.list hq
     refine ⟨pl.isList.typeIs, fun a e => ?_⟩
     cases e
     obtain ⟨o, n, e, c, hd, _⟩ := pl
     exact ⟨o, e, hd⟩
   · refine ⟨⟨o, I.Ew p o hk, hc⟩, fun a e => ?_⟩
     cases e
     exact ⟨o, I.Ew _ o hk, hd⟩
   · have z : ∃ o, s.heap.get? p = some o ∧ o.ExactDict := by
       rcases hk with ⟨kvs, hk⟩ | ⟨kvs, hk⟩
       · obtain ⟨_, _, _, _, o, _, _, e, ex, _⟩ := I.hok p _ hk
         exact ⟨o, e, ex⟩
       · obtain ⟨_, _, _, _, o, _, _, e, ex, _⟩ := I.hok p _ hk
         exact ⟨o, e, ex⟩
     obtain ⟨o, e, ex⟩ := z
     refine ⟨⟨o, e, ex.1⟩, fun a e2 => ?_⟩
     cases e2
     exact ⟨o, e, ex.2.1⟩
   · obtain ⟨o, _, _, _, e, ex, _⟩ := I.hok p _ hk
     refine ⟨⟨o, e, ex.1⟩, fun a e2 => ?_⟩
     cases e2
     exact ⟨o, e, ex.2.1⟩
 | _ => exact False.elim ty
def tBM (K : PySem.W.Frag) (T : String) (r : V → List V → Hp → VK → Prop) (to : TE) (t : TA) : TE := fun σ H Q => to σ H fun x H1 => tyV K T x H1 ∧ t σ H1 fun xs H2 => r x xs H2 Q
variable {o e : Expr} {es : List Expr} {to : TE} {t : TA} {name : Str} {apos cpos : Pos} {T id : String} {r : V → List V → Hp → VK → Prop}
theorem tL (pa : PlainAttrs T) (slot : Slot T name id) (hty : typeOf (.builtin id) = pure (.type "method_descriptor")) (hm : MtR X id r) (ho : PE X o to) (ha : PA X (e :: es) t)
   (hbase : attributeBase o name X.env (eval o X.env) = eval o X.env := by rfl)
   (hfew : ((backTo cpos (starEach (e :: es) X.env)).all (fun x => !x.1) && (backToKw cpos (keywordEach [] X.env)).all (fun x => x.1.isSome)
     && decide ((e :: es).length + ([] : List Keyword).length + (if ([] : List Keyword).isEmpty then 0 else 1) < 30)) = true := by rfl)
   (hline : (apos.endLine == cpos.line) = true := by rfl) (hs : starEach (e :: es) X.env = (false, eval e X.env) :: starEach es X.env := by rfl) (hplain : (backTo cpos (starEach es X.env)).any (·.1) = false := by rfl) :
   PE X (.Call (.Attribute o name apos) (e :: es) [] cpos) (tBM X.K T r to t) := by
 intro pins s σ H Q I h
 refine wpAny_Call_method_late hbase hfew hline rfl (eY (ho pins s σ H _ I h) fun v s1 ⟨x, H1, I1, r1, ty, q1⟩ => ?_)
 obtain ⟨h1, h2⟩ := aaM I1 r1 ty
 refine ⟨T, id, pa, slot, hty, h1, h2, ?_⟩
 have hA := ha cpos pins s1 σ H1 _ I1 q1
 rw [hs] at hA ⊢
 refine Calls.callWith_builtin (by show (false || (backTo cpos (starEach es X.env)).any (·.1)) = false; rw [hplain] <;> rfl) (Calls.evalArgs_plain ?_)
 exact eY hA fun us s2 ⟨vs, H2, I2, r2, q2⟩ => hm pins s2 σ H2 x vs v us Q I2 r1 r2 q2
end
end L2
namespace L2
open PySem PySem.Spec PyProof.Rows
def MtM (X : Cx) (id : String) (r : V → List V → Hp → VK → Prop) : Prop :=
 ∀ (pins : List (Addr × Obj)) (s : Shared) (σ : St) (H : Hp) (x : V) (xs : List V) (v : Value) (us : List Value) (Q : VK), Inv X pins σ H s → RelV x v → Vals xs us → r x xs H Q →
   wpAny (model X.prog X.w) X.A (call (.builtin id) (v :: us)) (EP X pins σ Q) X.xe s
theorem Vals.one : ∀ {x : V} {us : List Value}, Vals [x] us → ∃ u, us = [u] ∧ RelV x u
 | _, _, .cons r .nil => ⟨_, rfl, r⟩
theorem Vals.two : ∀ {x y : V} {us : List Value}, Vals [x, y] us → ∃ u v, us = [u, v] ∧ RelV x u ∧ RelV y v
 | _, _, _, .cons r (.cons q .nil) => ⟨_, _, rfl, r, q⟩
theorem Vals.zero : ∀ {us : List Value}, Vals [] us → us = []
 | _, .nil => rfl
theorem Vals.dropLast {xs : List V} {us : List Value} (h : Vals xs us) : Vals xs.dropLast us.dropLast := by
 induction h with
 | nil => exact .nil
 | cons r t ih =>
   cases t with
   | nil => exact .nil
   | cons q t' => exact .cons r ih
theorem Vals.reverse {xs : List V} {us : List Value} (h : Vals xs us) : Vals xs.reverse us.reverse := by
 induction h with
 | nil => exact .nil
 | cons r t ih => rw [List.reverse_cons, List.reverse_cons]; exact Vals.append ih (.cons r .nil)
section
variable {X : Cx} {pins : List (Addr × Obj)} {σ : St} {H : Hp} {s : Shared} {l b : Addr} {xs ys zs : List V}
theorem Inv.apa {its its' : List Value} {n : Nat} {f : Array Value → Array Value} {t' : Nat} (I : Inv X pins σ H s) (hH : H l = some (.lst xs))
   (e : s.heap.get? l = some { cls := .type "list", data := .seq its.toArray n }) (hf : f its.toArray = its'.toArray) (hv : Vals ys its') (hz : ys.length ≤ sizeLine) :
   Inv X pins σ (upd H l (.lst ys)) { s with heap := s.heap.update l (Obj.mapSeq f), toks := t' } := by
 have q := PySem.IsL.update e f
 rw [hf] at q
 refine I.write (x := l) (e := l) (by rw [hH]; exact trivial) (.inl rfl) (fun b' u hb hu => (Heap.get?_update_other s.heap (Obj.mapSeq f) (Ne.symm hb)).trans hu) ⟨_, q⟩ ?_
 exact ⟨hz, its', _, hv, q⟩
theorem Inv.apb {its : List Value} {t' : Nat} (I : Inv X pins σ H s) (hv : Vals ys its) (hz : ys.length ≤ sizeLine) :
   Inv X pins σ (upd H s.heap.objs.size (.lst ys)) { s with heap := s.heap.push { cls := .type "list", data := .seq its.toArray }, toks := t' } :=
 I.laid (fun _ _ q => Heap.get?_push_of_some _ q) (Nat.le_refl _) ⟨hz, its, 0, hv, Heap.get?_push_size _ rfl⟩
theorem Inv.fresh (I : Inv X pins σ H s) : H s.heap.objs.size = none := I.hok.fresh (Nat.le_refl _)
theorem Inv.aaN (I : Inv X pins σ H s) (hH : H l = some (.lst xs)) : xs.length ≤ sizeLine ∧ ∃ (its : List Value) (n : Nat), Vals xs its ∧ xs.length = its.length ∧ s.heap.get? l = some { cls := .type "list", data := .seq its.toArray n } := by
 obtain ⟨z, its, n, r, e⟩ := I.hok l _ hH
 exact ⟨z, its, n, r, r.length, e⟩
end
section
variable {X : Cx}
def X8 : V → List V → Hp → VK → Prop := fun x vs H Q => ∃ l xs y, x = .ref l ∧ vs = [y] ∧ H l = some (.lst xs) ∧ xs.length < sizeLine ∧ Q .non (upd H l (.lst (xs ++ [y])))
theorem Tj : MtM X "list.append" X8 := by
 intro pins s σ H x vs v us Q I rx rv h
 obtain ⟨l, xs, y, rfl, rfl, hH, hz, q⟩ := h
 cases rx
 obtain ⟨u, rfl, ru⟩ := rv.one
 obtain ⟨z, its, n, r, hl, e⟩ := I.aaN hH
 refine call_meets F.slot_list_append ⟨_, e, rfl⟩ F.entry_list_append (F.args_list_append_2 _ _) (PySem.list_append l its.toArray n u (by rw [List.size_toArray]; omega)) ⟨e, ?_⟩
 refine ⟨.non, _, I.apa (its' := its ++ [u]) hH e (by simp) (r.append (.cons ru .nil)) ?_, rfl, q⟩
 rw [List.length_append, List.length_singleton]
 omega
def apc : R2 := fun x y H Q => ∃ l b xs zs, x = .ref l ∧ y = .ref b ∧ H l = some (.lst xs) ∧ H b = some (.lst zs) ∧ xs.length + zs.length ≤ sizeLine ∧ ∀ p, H p = none → Q (.ref p) (upd H p (.lst (xs ++ zs)))
theorem Vj : ir X (binaryOp .Add) apc := by
 intro pins s σ H x y v u Q I rx ry h
 obtain ⟨l, b, xs, zs, rfl, rfl, hH, hB, hz, q⟩ := h
 cases rx
 cases ry
 obtain ⟨z, its, n, r, hl, e⟩ := I.aaN hH
 obtain ⟨z2, its2, n2, r2, hl2, e2⟩ := I.aaN hB
 refine PySem.P.add_list e e2 ?_ (by rw [List.size_toArray, List.size_toArray]; omega)
 have ea : its.toArray ++ its2.toArray = (its ++ its2).toArray := by simp
 rw [ea]
 exact ⟨.ref _, _, I.apb (t' := s.toks) (r.append r2) (by rw [List.length_append]; omega), rfl, q _ I.fresh⟩
end
section
variable {prog : Program} {w : World} {A : Around} {E : Value → Shared → Prop} {s : Shared}
end
section
variable {X : Cx}
end
end L2
namespace Att
open PySem PySem.W PySem.Calls PyProof.Rows
theorem De {P : Params} {h : Heap} : ∀ (ns : List Int) (vs : List Value), WellAll P h vs (ns.map WData.int) → IntsAre vs ns := by
 intro ns
 induction ns with
 | nil =>
   intro vs w
   rw [List.map_nil] at w
   cases w
   exact .nil
 | cons n ns ih =>
   intro vs w
   rw [List.map_cons] at w
   cases w with
   | cons a b =>
     cases a
     exact .cons _ _ (ih _ b)
theorem Tn {l : OpenLaw} {n : Nat} (hn : l.most = some n) {P : Params} {h : Heap} {args : List WData} {vals : List Value}
   (hpre : l.row.toRowW.claim.pre args = true) (hwl : WellAll P h vals args) :
   ∃ a vs ns, vals = [Value.ref a] ∧ args = [WData.list (ns.map WData.int)] ∧ h.get? a = some { cls := .type "list", data := .seq vs.toArray } ∧ IntsAre vs ns ∧ ns.length ≤ n := by
 have hsh : WShape.hasAll [] args [.list .int] = true := (pre_splitW hpre).1
 have hc : l.pre.holds [] { args := args } = true := (pre_splitW hpre).2
 obtain ⟨d, r, rfl, h1, h2⟩ := hasAllW_cons hsh
 obtain rfl := hasAllW_nil h2
 obtain ⟨xs, rfl, h3⟩ := hasW_list h1
 obtain ⟨ns, rfl⟩ := items_int h3
 have hlen : ns.length ≤ n := by
   unfold OpenLaw.pre at hc
   have h4 : (WTm.not (.lt (.lit (.int (n : Int))) (.len (.arg 0)))).holds [] { args := [.list (ns.map .int)] } = true := by
     have h4 := (holds_andW hc).1
     rw [hn] at h4
     exact h4
   have h5 := condW_of h4 (w_not (w_lt w_lit (w_len_list (w_arg rfl))))
   rw [List.length_map] at h5
   refine Nat.le_of_not_lt fun q => ?_
   have q' : (n : Int) < ((ns.length : Nat) : Int) := by omega
   first
     | (rw [decide_eq_true q'] at h5; exact absurd h5 (by decide))
     | (simp at h5; omega)
 cases hwl with
 | cons w1 w2 =>
   cases w2
   cases w1 with
   | list ho hall => exact ⟨_, _, ns, rfl, rfl, ho, De ns _ hall, hlen⟩
theorem Tp (l : OpenLaw) (args : List WData) : l.row.toRowW.claim.post args (.bool true) args = true :=
 postW_of (r := l.row.toRowW) (X := (true == true))
   (show WShape.has [] (.bool true) .bool = true by first | rfl | decide | simp [WShape.has, WShape.arms, WShape.armsAll])
   (show (WTm.eq .res (.lit (.bool true))).value [] { args := args, res := some (.bool true), after := args } = some (.bool (true == true)) from w_eq_bool (w_res rfl) w_lit) rfl
section
variable {prog : Program} {w : World} {A : Around} {E : Value → Shared → Prop} {s : Shared} {K : Frag}
end
end Att
namespace L2
open PySem PySem.Spec PyProof.Rows
theorem JS : ∀ {vs : List Value} {ns : List Int}, IntsAre vs ns → Vals (ns.map V.int) vs
 | _, _, .nil => .nil
 | _, _, .cons n t h => .cons ⟨t, rfl⟩ (JS h)
def Only (H : Hp) : Prop := ∀ b, H b = none ∨ ∃ o xs, H b = some (.Mu o (.lst xs))
theorem Vk {P : Program} {w : World} {K : PySem.W.Frag} {mg mb : Str → Option Value} {CX : Ez} {k : Nat} {fa a : Addr} {fd : FuncData} {x : Str} {sp : Sp} {s₁ : Shared} {vs : List Value} {ns : List Int}
   (KX : K.In s₁.heap) (hns : s₁.heap.Ns mainGlobals mg) (hb : s₁.heap.Ns builtinsNs mb) (hbb : ∀ x : Str, x ≠ "__name__" → mb x = bootBuiltins x) (hlim : s₁.heap.NoLimit) (hg : s₁.gens = #[])
   (ha : s₁.heap.get? a = some { cls := .type "list", data := .seq vs.toArray }) (hi : IntsAre vs ns) (hl : ns.length ≤ sizeLine) (hr : fK k callerA)
   (F : ∀ base : Heap, K.In base → base.Ns mainGlobals mg → aF P w K mg base CX k fa fd [x] sp) (hbind : ∀ (s : Shared) (u : Value), BindsTo s fd ⟨[u], []⟩ [(x, u)])
   (hsp : ∀ H : Hp, Only H → bz K H a (ns.map V.int) → sp [.ref a] H (fun v _ => v = .bl true) fun _ _ _ => False)
   (hCX : ∀ H e s', CX [] H s₁ (fun _ _ _ => False) e s' → False) :
   codeAny (model P w) callerA (.call (.ref fa) ⟨[.ref a], []⟩) (fun r s' => r = .ok (.ret (.bool true)) ∧ OldK s₁.heap s'.heap ∧ s'.os = s₁.os ∧ AllBare s'.gens) s₁ := by
 have rv := JS hi
 have lenV := hi.length
 have core : ∀ H : Hp, Only H → bz K H a (ns.map V.int) → Dd P w H s₁.heap → (∀ b, H b ≠ none → b = a) → (H a ≠ none → K.lookup a = none) →
     codeAny (model P w) callerA (.call (.ref fa) ⟨[.ref a], []⟩) (fun r s' => r = .ok (.ret (.bool true)) ∧ OldK s₁.heap s'.heap ∧ s'.os = s₁.os ∧ AllBare s'.gens) s₁ := by
   intro H hO hS hok hA hK
   have RB : ∀ {b : Addr} {o : Obj}, s₁.heap.get? b = some o → H b = none → (Ks s₁.heap H).get? b = some o := fun e n => UJ e n
   have noA : ∀ {b : Addr} {o : Obj} {es : Array DictEntry} {ep : Nat}, s₁.heap.get? b = some o → o.data = .dict es ep → H b = none := fun {b o es ep} e d => by
     cases q : H b with
     | none => rfl
     | some u =>
       have e' : b = a := hA b (by rw [q]; simp)
       subst e'
       rw [ha] at e; cases e
       have d' : Data.seq vs.toArray _ = Data.dict es ep := d
       cases d'
   have nsK : ∀ {b : Addr} {m : Str → Option Value}, s₁.heap.Ns b m → (Ks s₁.heap H).Ns b m := fun {b m} ⟨o, es, ep, e, d, r⟩ => ⟨o, es, ep, RB e (noA e d), d, r⟩
   have hKb : K.In (Ks s₁.heap H) := fun b o e => RB (KX b o e) (by
     cases q : H b with
     | none => rfl
     | some u =>
       have e' : b = a := hA b (by rw [q]; simp)
       subst e'
       rw [hK (by rw [q]; simp)] at e; cases e)
   have hM : Mod K mg (Ks s₁.heap H) := ⟨hKb, nsK hns, ⟨mb, nsK hb, hbb⟩, let ⟨mc, h1, h2⟩ := hlim; ⟨mc, nsK h1, h2⟩⟩
   have e0 : Fy P w K mg (Ks s₁.heap H) callerA [] s₁ H := ⟨rfl, hM, fun b o e => XJ e, Nat.le_of_eq (S6 _ _), trivial, fun b hb => absurd (show b ∈ ([] : List Addr) from hb) (by simp), hok, .of_eq hg⟩
   refine codeAny_mono ((F _ hKb (nsK hns)).run callerA [] s₁ H ⟨[.ref a], []⟩ [.ref a] [.ref a] _ _ hr e0 (hbind s₁ (.ref a)) (.cons rfl .nil) (hsp H hO hS)) fun r s' h => ?_
   cases r with
   | error e => exact (hCX H e s' h).elim
   | ok fl =>
     cases fl with
     | next => exact False.elim h
     | brk => exact False.elim h
     | cont => exact False.elim h
     | ret u =>
       obtain ⟨v, H', os, bare, un, hok', r', q⟩ := h
       have q' : v = .bl true := q
       subst q'
       obtain rfl : u = Value.bool true := r'
       refine ⟨rfl, OldK.of_keep fun b o e => ?_, os, bare⟩
       cases q : H b with
       | none => exact un.keep b o e q (by intro z; exact absurd (show b ∈ ([] : List Addr) from z) (by simp)) (by simp)
       | some u =>
         rcases hO b with z | ⟨ob, xs, z⟩
         · rw [q] at z; cases z
         · have z2 := un.pX b ob _ z
           obtain ⟨e1, _⟩ := hok b _ z
           obtain ⟨e2, _⟩ := hok' b _ z2
           rw [e] at e1; cases e1
           exact e2
 cases hk : K.lookup a with
 | some o =>
   have e := KX a o hk
   rw [ha] at e
   cases e
   refine core (fun _ => none) (fun _ => .inl rfl) (.inr ⟨_, vs.toArray, _, hk, rfl, rfl, rfl, by rw [List.size_toArray, lenV]; exact hl, by simpa using rv⟩) (fun b u z => by have z' : (none : Option HO) = some u := z; cases z') (fun b z => absurd rfl z) fun z => absurd rfl z
 | none =>
   refine core (fun b => if b = a then some (.Mu { cls := .type "list", data := .seq vs.toArray } (.lst (ns.map V.int))) else none) (fun b => ?_) (.inl (.inr ⟨{ cls := .type "list", data := .seq vs.toArray }, if_pos rfl⟩)) (fun b u z => ?_) (fun b z => ?_) fun _ => hk
   · by_cases hb : b = a
     · exact .inr ⟨_, _, if_pos hb⟩
     · exact .inl (if_neg hb)
   · by_cases hb : b = a
     · have z' := (if_pos hb).symm.trans z
       cases z'
       subst hb
       exact ⟨ha, by rw [List.length_map]; exact hl, vs, _, rv, ha⟩
     · have z' := (if_neg hb).symm.trans z
       cases z'
   · by_cases hb : b = a
     · exact hb
     · exact absurd (if_neg hb) z
end L2
namespace L2
open PySem PySem.Spec PyProof.Rows
abbrev KOf {K : PySem.W.Frag} {h : Heap} (_ : K.In h) : PySem.W.Frag := K
end L2
namespace L2
open PySem PySem.Spec PyProof.Rows
def inClass (s : Stmt) (j : Nat) : Stmt := match s with
 | .ClassDef _ _ _ body _ _ _ _ _ _ _ => body.getD j (.Pass ⟨0, 0, 0, 0⟩)
 | _ => .Pass ⟨0, 0, 0, 0⟩
def ak (s : Stmt) : Arguments := match s with
 | .FunctionDef _ a _ _ _ _ _ _ _ _ => a
 | _ => { posonlyargs := [], args := [], vararg := none, kwonlyargs := [], kw_defaults := [], kwarg := none, defaults := [] }
def aj (s : Stmt) : List Stmt := match s with
 | .FunctionDef _ _ b _ _ _ _ _ _ _ => b
 | _ => []
def aa (s : Stmt) : Scope := match s with
 | .FunctionDef _ _ _ _ _ _ sc _ _ _ => sc
 | _ => { kind := .function, names := [], isGenerator := false, isCoroutine := false }
abbrev cD : Ez := fun _ _ _ _ _ _ => False
abbrev E0 : XK := fun _ _ _ => False
theorem zM {X : Cx} : Passes cD X E0 := fun _ _ _ _ _ _ _ h => h.elim
structure gq (K : PySem.W.Frag) (x qual : Str) (st : Stmt) (f : Addr) (fd : FuncData) : Prop where
 ex : ∃ (oc : Value) (od : Option Addr) (kV doc pm : Value) (an : Option Addr) (cdv ct : Value) (osl : Array (Option Value)),
   fd = PySem.W.fnOf x qual (ak st) (aj st) (aa st) .none kV doc pm an cdv ct ∧ K.lookup f = some ⟨oc, od, .func fd, osl⟩ ∧ PySem.W.codeIn K cdv qual = true
 kp : PySem.W.keepIn K (.ref f) = true
section
variable {P : Program} {w : World} {K : PySem.W.Frag} {mg : Str → Option Value} {base : Heap}
theorem gq.ok {x qual : Str} {st : Stmt} {f : Addr} {fd : FuncData} {N ps : List Str} {k : Nat} {sp : Sp} (F : gq K x qual st f fd) (S : aq N ps (aa st)) (len : ∀ vs H Q E, sp vs H Q E → vs.length = ps.length)
   (hbody : ∀ (cdv : Value) (A : Around) (outer : List Env) (s : Shared) (H : Hp) (vs : List V) (Q : VK) (E : XK), fK k (A.deeper (envOfC qual (aa st) s.heap.objs.size f cdv)) → sp vs H Q E →
     ∃ t, jG (jD cD P w K mg base N qual (aa st) f cdv A outer s H E).Mv (aj st) t ∧ t { nx := fun _ H' => Q .non H', rt := Q } (start N vs) H) : aF P w K mg base cD (k + 1) f fd ps sp := by
 obtain ⟨oc, od, kV, doc, pm, an, cdv, ct, osl, rfl, lk, hcd⟩ := F.ex
 refine Rz lk hcd S len fun A outer s H vs Q E hr hsp => ?_
 obtain ⟨t, h, q⟩ := hbody cdv A outer s H vs Q E hr hsp
 exact ⟨t, h.Mv, q⟩
theorem gq.binds {x qual : Str} {st : Stmt} {f : Addr} {fd : FuncData} {ps : List Str} (F : gq K x qual st f fd)
   (h : ∀ (kV doc pm : Value) (an : Option Addr) (cdv ct : Value) (us : List Value), us.length = ps.length → bindArgs (PySem.W.fnOf x qual (ak st) (aj st) (aa st) .none kV doc pm an cdv ct) ⟨us, []⟩ = pure (ps.zip us)) : Binds K fd ps [] := by
 obtain ⟨oc, od, kV, doc, pm, an, cdv, ct, osl, rfl, lk, hcd⟩ := F.ex
 exact .all (h kV doc pm an cdv ct)
theorem ao {x qual : Str} {st : Stmt} {f : Addr} {oc : Value} {od an : Option Addr} {osl : Array (Option Value)} {kV doc pm cdv ct : Value} (l : K.lookup f = some ⟨oc, od, .func (PySem.W.fnOf x qual (ak st) (aj st) (aa st) .none kV doc pm an cdv ct), osl⟩)
   (c : PySem.W.codeIn K cdv qual = true) (k : PySem.W.keepIn K (.ref f) = true) : gq K x qual st f (PySem.W.fnOf x qual (ak st) (aj st) (aa st) .none kV doc pm an cdv ct) := ⟨⟨oc, od, kV, doc, pm, an, cdv, ct, osl, rfl, l, c⟩, k⟩
end
section
variable {X : Cx}
theorem pv (i : Nat) {x : Str} {pos : Pos} (hN : X.N[i]? = some x := by rfl) (hv : Vis X.env.scope x := by first | exact Or.inl rfl | exact Or.inr (Or.inl rfl) | exact Or.inr (Or.inr rfl)) (hd : (x == ("__debug__" : Str)) = false := by decide)
   (hcd : (x == ("__classdict__" : Str)) = false := by decide) : PE X (.Name x pos) (UW i) := aay hN hv hd hcd
end
theorem aM {A B : Prop} (h : B) : if false = true then A else B := by
 rw [if_neg Bool.false_ne_true]
 exact h
theorem cQ {A B : Prop} (h : A) : if true = true then A else B := by
 rw [if_pos rfl]
 exact h
theorem du {c A B : Prop} [Decidable c] (h1 : c → A) (h2 : ¬ c → B) : if c then A else B := by
 by_cases h : c
 · rw [if_pos h]
   exact h1 h
 · rw [if_neg h]
   exact h2 h
def aB (H H' : Hp) : Prop := ∀ b o, H b = some o → H' b = some o
theorem aB.refl (H : Hp) : aB H H := fun _ _ h => h
theorem aB.trans {H H1 H2 : Hp} (a : aB H H1) (b : aB H1 H2) : aB H H2 := fun c o h => b c o (a c o h)
theorem aB.free {H H' : Hp} (e : aB H H') {l : Addr} (h : H' l = Option.none) : H l = Option.none := by
 cases q : H l with
 | none => rfl
 | some o =>
   rw [e l o q] at h
   cases h
theorem aB.seq {K : PySem.W.Frag} {H H' : Hp} {a : Addr} {xs : List V} (e : aB H H') (h : bz K H a xs) : bz K H' a xs := by
 rcases h with (h | ⟨o, h⟩) | h
 · exact .inl (.inl (e _ _ h))
 · exact .inl (.inr ⟨o, e _ _ h⟩)
 · exact .inr h
end L2
namespace L2
open PySem PySem.Spec PyProof.Rows
section
variable {κ : Type} [DecidableEq κ]
def Fz (kvs : List (κ × V)) (k : κ) : Option V := (kvs.find? fun kv => decide (kv.1 = k)).map (·.2)
def putK (kvs : List (κ × V)) (k : κ) (v : V) : List (κ × V) :=
 if (kvs.any fun kv => decide (kv.1 = k)) = true then kvs.map (fun kv => if kv.1 = k then (kv.1, v) else kv) else kvs ++ [(k, v)]
def Zy (kvs : List (κ × V)) (k : κ) : List (κ × V) := kvs.filter fun kv => decide (kv.1 ≠ k)
theorem M7 {p : κ × V} {r : List (κ × V)} {k : κ} (e : p.1 = k) : Fz (p :: r) k = some p.2 := by simp [Fz, List.find?_cons, e]
theorem M8 {p : κ × V} {r : List (κ × V)} {k : κ} (e : ¬ p.1 = k) : Fz (p :: r) k = Fz r k := by simp [Fz, List.find?_cons, e]
theorem xW.getD {o : Option V} {u : Option Value} {d : V} {d' : Value} (r : xW o u) (rd : RelV d d') : RelV (o.getD d) (u.getD d') := by
 cases o with
 | none => cases u with
   | none => exact rd
   | some _ => exact (show False from r).elim
 | some _ => cases u with
   | none => exact (show False from r).elim
   | some _ => exact r
theorem KV.val {kvs : List (κ × V)} {vs : List (κ × Value)} (r : KV kvs vs) (k : κ) : xW (Fz kvs k) (valueAt vs k) := by
 unfold KV at r
 induction r with
 | nil => exact True.intro
 | @cons p q ps qs h t ih =>
   obtain ⟨h1, h2⟩ := h
   by_cases e : p.1 = k
   · have e' : q.1 = k := h1.symm.trans e
     have b : valueAt (q :: qs) k = some q.2 := by simp [valueAt, List.find?_cons, e']
     rw [M7 e, b]; exact h2
   · have e' : ¬ q.1 = k := fun z => e (h1.trans z)
     have b : valueAt (q :: qs) k = valueAt qs k := by simp [valueAt, List.find?_cons, e']
     rw [M8 e, b]; exact ih
theorem KV.any {kvs : List (κ × V)} {vs : List (κ × Value)} (r : KV kvs vs) (k : κ) : (kvs.any fun kv => decide (kv.1 = k)) = vs.any fun kv => decide (kv.1 = k) := by
 unfold KV at r
 induction r with
 | nil => rfl
 | cons h t ih => rw [List.any_cons, List.any_cons, ih, h.1]
theorem KV.drop {kvs : List (κ × V)} {vs : List (κ × Value)} (r : KV kvs vs) (k : κ) : KV (Zy kvs k) (without vs k) := by
 unfold KV at r ⊢
 unfold Zy without
 induction r with
 | nil => exact .nil
 | @cons p q ps qs h t ih =>
   obtain ⟨h1, h2⟩ := h
   rw [List.filter_cons, List.filter_cons]
   by_cases e : p.1 = k
   · have a : ¬ decide (p.1 ≠ k) = true := by simp [e]
     have b : ¬ decide (q.1 ≠ k) = true := by simp [h1.symm.trans e]
     rw [if_neg a, if_neg b]; exact ih
   · have e' : ¬ q.1 = k := fun z => e (h1.trans z)
     have a : decide (p.1 ≠ k) = true := by simp [e]
     have b : decide (q.1 ≠ k) = true := by simp [e']
     rw [if_pos a, if_pos b]; exact .cons ⟨h1, h2⟩ ih
theorem KV.keys {kvs : List (κ × V)} {vs : List (κ × Value)} (r : KV kvs vs) : kvs.map (·.1) = vs.map (·.1) := by
 unfold KV at r
 induction r with
 | nil => rfl
 | cons h t ih => rw [List.map_cons, List.map_cons, ih, h.1]
theorem KV.length {kvs : List (κ × V)} {vs : List (κ × Value)} (r : KV kvs vs) : kvs.length = vs.length := Paired.length r
end
abbrev KT (H : Hp) : List (List Key × V) → List (List Key × Addr × Value) → Prop := Paired fun p q => p.1 = q.1 ∧ H q.2.1 = some (.tup (p.1.map kV)) ∧ RelV p.2 q.2.2
theorem KT.val {H : Hp} {kvs : List (List Key × V)} {xs : List (List Key × Addr × Value)} (r : KT H kvs xs) (k : List Key) : xW (Fz kvs k) ((atKey xs k).map (·.2)) := by
 induction r with
 | nil => exact True.intro
 | @cons p q ps qs h t ih =>
   obtain ⟨h1, _, h2⟩ := h
   by_cases e : p.1 = k
   · have e' : q.1 = k := h1.symm.trans e
     have b : atKey (q :: qs) k = some q.2 := by simp [atKey, List.find?_cons, e']
     rw [M7 e, b]; exact h2
   · have e' : ¬ q.1 = k := fun z => e (h1.trans z)
     have b : atKey (q :: qs) k = atKey qs k := by simp [atKey, List.find?_cons, e']
     rw [M8 e, b]; exact ih
theorem KT.keeps {H H' : Hp} {kvs : List (List Key × V)} {xs : List (List Key × Addr × Value)} (r : KT H kvs xs) (ht : ∀ b ys, H b = some (.tup ys) → H' b = some (.tup ys)) : KT H' kvs xs :=
 Paired.aaw r fun _ _ z => ⟨z.1, ht _ _ z.2.1, z.2.2⟩
section
variable {P : Program} {w : World} {H : Hp} {h : Heap} {a : Addr}
end
def Yb (H : Hp) (a : Addr) (y : V) (r : Option V) : Prop :=
 (∃ kvs k, Rd H a (.dK kvs) ∧ y = kV k ∧ r = Fz kvs k) ∨ ∃ kvs k b, Rd H a (.dT kvs) ∧ y = .ref b ∧ H b = some (.tup (k.map kV)) ∧ r = Fz kvs k
def Yc (H : Hp) (a : Addr) (y v : V) (H' : Hp) : Prop :=
 (∃ kvs k, H a = some (.dK kvs) ∧ y = kV k ∧ kvs.length < sizeLine ∧ H' = upd H a (.dK (putK kvs k v))) ∨
 ∃ kvs k b, H a = some (.dT kvs) ∧ y = .ref b ∧ H b = some (.tup (k.map kV)) ∧ kvs.length < sizeLine ∧ H' = upd H a (.dT (putK kvs k v))
theorem Yb.k {H : Hp} {a : Addr} {kvs : List (Key × V)} {k : Key} (e : H a = some (.dK kvs)) : Yb H a (kV k) (Fz kvs k) := .inl ⟨kvs, k, .inl e, rfl, rfl⟩
theorem Yb.t {H : Hp} {a b : Addr} {kvs : List (List Key × V)} {k : List Key} (e : H a = some (.dT kvs)) (eb : H b = some (.tup (k.map kV))) : Yb H a (.ref b) (Fz kvs k) := .inr ⟨kvs, k, b, .inl e, rfl, eb, rfl⟩
theorem Yc.k {H : Hp} {a : Addr} {kvs : List (Key × V)} {k : Key} {v : V} (e : H a = some (.dK kvs)) (hl : kvs.length < sizeLine) : Yc H a (kV k) v (upd H a (.dK (putK kvs k v))) := .inl ⟨kvs, k, e, rfl, hl, rfl⟩
theorem Yc.t {H : Hp} {a b : Addr} {kvs : List (List Key × V)} {k : List Key} {v : V} (e : H a = some (.dT kvs)) (eb : H b = some (.tup (k.map kV))) (hl : kvs.length < sizeLine) :
   Yc H a (.ref b) v (upd H a (.dT (putK kvs k v))) := .inr ⟨kvs, k, b, e, rfl, eb, hl, rfl⟩
section
variable {X : Cx} {pins : List (Addr × Obj)} {σ : St} {H : Hp} {s : Shared} {a : Addr} {y v : V} {u r : Value} {o : Option V} {A : Around} {E : Value → Shared → Prop}
end
section
variable {X : Cx} {pins : List (Addr × Obj)} {σ : St} {H : Hp} {s : Shared} {a : Addr} {kvs : List (Key × V)} {k : Key} {u : Value} {A : Around} {E : Value → Shared → Prop}
end
section
variable {X : Cx} {o i e value : Expr} {pos pos' tpos : Pos} {td ty tv : TE}
end
section
variable {X : Cx} {pos : Pos}
end
def Vl : List (TE × TE) → St → Hp → (List (V × V) → Hp → Prop) → Prop
 | [], _, H, Q => Q [] H
 | (tk, tv) :: r, σ, H, Q => tk σ H fun x H1 => tv σ H1 fun y H2 => Vl r σ H2 fun ps H3 => Q ((x, y) :: ps) H3
abbrev VV : List (V × V) → List (Value × Value) → Prop := Paired fun p q => RelV p.1 q.1 ∧ RelV p.2 q.2
def wD (X : Cx) (pos : Pos) (keys : List (Option Expr)) (values : List Expr) (trs : List (TE × TE)) : Prop :=
 ∀ (pins : List (Addr × Obj)) (s : Shared) (σ : St) (H : Hp) (Q : List (V × V) → Hp → Prop), Inv X pins σ H s → Vl trs σ H Q →
   wpAny (model X.prog X.w) X.A (evalPairs (pairTrees keys values X.env pos)) (fun vs s' => ∃ ps H', Inv X pins σ H' s' ∧ VV ps vs ∧ Q ps H') X.xe s
structure M1 (X : Cx) (o : Expr) (m : Str) (apos : Pos) (e : Expr) (cpos : Pos) : Prop where
 base : attributeBase o m X.env (eval o X.env) = eval o X.env
 few : ((backTo cpos (starEach [e] X.env)).all (fun x => !x.1) && (backToKw cpos (keywordEach [] X.env)).all (fun x => x.1.isSome)
   && decide (([e] : List Expr).length + ([] : List Keyword).length + (if ([] : List Keyword).isEmpty then 0 else 1) < 30)) = true
 line : (apos.endLine == cpos.line) = true
 trees : backTo cpos (starEach [e] X.env) = [(false, eval e X.env)]
structure M2 (X : Cx) (o : Expr) (m : Str) (apos : Pos) (e f : Expr) (cpos : Pos) : Prop where
 base : attributeBase o m X.env (eval o X.env) = eval o X.env
 few : ((backTo cpos (starEach [e, f] X.env)).all (fun x => !x.1) && (backToKw cpos (keywordEach [] X.env)).all (fun x => x.1.isSome)
   && decide (([e, f] : List Expr).length + ([] : List Keyword).length + (if ([] : List Keyword).isEmpty then 0 else 1) < 30)) = true
 line : (apos.endLine == cpos.line) = true
 trees : backTo cpos (starEach [e, f] X.env) = [(false, eval e X.env), (false, eval f X.env)]
section
variable {X : Cx} {pins : List (Addr × Obj)} {σ : St} {H : Hp} {s : Shared} {a : Addr} {y d : V} {u r : Value} {o : Option V} {A : Around} {E : Value → Shared → Prop}
end
section
variable {X : Cx} {o e f : Expr} {apos cpos : Pos} {td ty tx : TE}
end
section
variable {X : Cx} {pins : List (Addr × Obj)} {σ : St} {H : Hp} {s : Shared} {a : Addr} {kvs : List (Key × V)} {A : Around} {E : Value → Shared → Prop}
end
section
variable {X : Cx} {pins : List (Addr × Obj)} {σ : St} {H : Hp} {s : Shared} {a : Addr} {y : V} {u : Value} {A : Around} {E : Value → Shared → Prop}
end
end L2
namespace L2
open PySem PySem.Spec PyProof.Rows
section
variable {X : Cx}
end
section
variable {κ : Type} [DecidableEq κ]
end
end L2
namespace L2
open PySem PySem.Spec PyProof.Rows PySem.Calls
section
variable {prog : Program} {w : World} {A : Around} {R : Result → Shared → Prop} {s : Shared}
theorem Ck {elt target iter : Expr} {scope : Scope} {pos : Pos} {it acc : Value} {env : Env} (I : Nat → Shared → Prop)
   (turn : ∀ n s, I n s → wpAny (model prog w) A (pyNext it) (fun r s₁ => match r with
     | none => R (.ok .next) s₁
     | some v => wpAny (model prog w) A (letOwnedTupleGo target it v) (fun _ s₂ => wpAny (model prog w) A (assign target env v) (fun _ s₃ =>
         wpAny (model prog w) A (eval elt env) (fun x s₄ =>
           wpAny (model prog w) A (call (.builtin "list.append") [acc, x]) (fun _ s₅ => ∃ m, m < n ∧ I m s₅) (notedBy (model prog w) A env fun e s' => R (.error e) s') s₄)
           (notedBy (model prog w) A env fun e s' => R (.error e) s') s₃) (notedBy (model prog w) A env fun e s' => R (.error e) s') s₂) (notedBy (model prog w) A env fun e s' => R (.error e) s') s₁)
     (notedBy (model prog w) A env fun e s' => R (.error e) s') s)
   (n : Nat) (h : I n s) : codeAny (model prog w) A (.compLoop (.ListComp elt [⟨target, iter, [], 0⟩] scope pos) 0 it acc env) R s := by
 refine codeAny_loop rfl I (fun n s hI => ?_) n h
 show wpAny _ A ((compTurn (.ListComp elt [⟨target, iter, [], 0⟩] scope pos) 0 it acc env).onRaise (fun x => do noteFrame x env; theTreesLotGoes x)) _ _ s
 refine wpAny_noted ?_
 rw [compTurn_list1]
 refine wpAny_bind (wpAny_standAt (wpAny_bind (wpAny_mono (turn n s hI) (fun r s₁ h₁ => ?_) fun _ _ h' => h')))
 cases r with
 | none => exact wpAny_pure h₁
 | some v =>
   refine wpAny_bind (wpAny_mono h₁ (fun _ s₂ h₂ => wpAny_bind (wpAny_mono h₂ (fun _ s₃ h₃ => ?_) fun _ _ h' => h')) fun _ _ h' => h')
   exact wpAny_bind (wpAny_bind (wpAny_mono h₃ (fun x s₄ h₄ => wpAny_bind (wpAny_mono h₄ (fun _ s₅ h₅ => wpAny_pure (wpAny_pure ⟨rfl, h₅⟩)) fun _ _ h' => h')) fun _ _ h' => h'))
end
def iY (env : Env) : List (Str × NameKind) → List (Str × Addr) → List (Str × Addr)
 | [], cs => cs
 | (n, k) :: r, cs => iY env r (if k == .free then match env.cells.lookup n with | some c => (n, c) :: cs | none => cs else cs)
theorem M9 {env : Env} : ∀ {ns : List (Str × NameKind)} {cs : List (Str × Addr)} {y : Str} {c : Addr}, (y, c) ∈ iY env ns cs → (y, c) ∈ cs ∨ env.cells.lookup y = some c
 | [], _, _, _, h => .inl h
 | (n, k) :: r, cs, y, c, h => by
   unfold iY at h
   rcases M9 h with q | q
   · split at q
     · cases e : env.cells.lookup n with
       | none => rw [e] at q; exact .inl q
       | some d =>
         rw [e] at q
         rcases List.mem_cons.mp q with z | z
         · cases z; exact .inr e
         · exact .inl z
     · exact .inl q
   · exact .inr q
theorem Nb {env : Env} : ∀ {ns : List (Str × NameKind)} {cs : List (Str × Addr)} {y : Str}, ((∃ c, (y, c) ∈ cs) ∨ ((y, NameKind.free) ∈ ns ∧ ∃ c, env.cells.lookup y = some c)) → ∃ c, (y, c) ∈ iY env ns cs
 | [], _, _, h => by
   rcases h with h | ⟨h, _⟩
   · exact h
   · cases h
 | (n, k) :: r, cs, y, h => by
   unfold iY
   apply Nb
   rcases h with ⟨c, h⟩ | ⟨h, c, e⟩
   · left
     split
     · cases e : env.cells.lookup n with
       | none => exact ⟨c, h⟩
       | some d => exact ⟨c, List.mem_cons_of_mem _ h⟩
     · exact ⟨c, h⟩
   · rcases List.mem_cons.mp h with z | z
     · cases z
       left
       rw [e]
       exact ⟨c, by simp⟩
     · exact .inr ⟨z, c, e⟩
theorem FJ {env : Env} : ∀ {ns : List (Str × NameKind)} {cs : List (Str × Addr)}, (∀ y, (y, NameKind.free) ∈ ns → ∃ c, env.cells.lookup y = some c) →
   (forIn ns cs fun (x : Str × NameKind) (r : List (Str × Addr)) => (if x.2 == NameKind.free then (do let c ← cellOf env x.1; pure (ForInStep.yield ((x.1, c) :: r))) else pure (ForInStep.yield r) : Sem (ForInStep (List (Str × Addr))))) = (pure (iY env ns cs) : Sem (List (Str × Addr)))
 | [], _, _ => rfl
 | (n, k) :: r, cs, h => by
   have ih := @FJ env r
   rw [List.forIn_cons]
   unfold iY
   cases hk : k == NameKind.free with
   | false =>
     simp only [Bool.false_eq_true, if_false]
     exact ih fun y hy => h y (List.mem_cons_of_mem _ hy)
   | true =>
     have ek : k = NameKind.free := by simpa using hk
     subst ek
     obtain ⟨c, e⟩ := h n (by simp)
     have ec : cellOf env n = pure c := by unfold cellOf; rw [e]
     simp only [if_true]
     rw [ec, e]
     exact ih fun y hy => h y (List.mem_cons_of_mem _ hy)
theorem Qm {scope : Scope} {env : Env} (h : ∀ y, (y, NameKind.free) ∈ scope.names → ∃ c, env.cells.lookup y = some c) : closureFor scope env = pure (iY env scope.names []) := by
 have q := FJ (cs := []) h
 unfold closureFor
 exact congrArg (fun m => m >>= fun r => pure r) q
end L2
namespace L2
open PySem PySem.Spec PyProof.Rows PySem.Calls
theorem xV {env : Env} {y : Str} : ∀ {names : List (Str × NameKind)},
   (names.map fun (n, k) => if (k == NameKind.free && env.scope.kind == .function && env.kindOf n == some .cell) then (n, NameKind.cell) else (n, k)).lookup y
     = (names.lookup y).map fun k => if (k == NameKind.free && env.scope.kind == .function && env.kindOf y == some .cell) then NameKind.cell else k
 | [] => rfl
 | (n, k) :: r => by
   have ih := @xV env y r
   by_cases hx : y = n
   · subst hx
     simp only [List.map_cons]
     split <;> rename_i hc
     · rw [List.lookup_cons, List.lookup_cons]; simp only [beq_self_eq_true, Option.map_some]; rw [if_pos hc]
     · rw [List.lookup_cons, List.lookup_cons]; simp only [beq_self_eq_true, Option.map_some]; rw [if_neg hc]
   · have hb : (y == n) = false := beq_eq_false_iff_ne.mpr hx
     simp only [List.map_cons]
     split <;> simp only [List.lookup_cons, hb] <;> exact ih
section
variable {X : Cx} {pins : List (Addr × Obj)} {σ : St} {H : Hp} {s : Shared} {a : Addr} {o : HO}
theorem Inv.track (I : Inv X pins σ H s) (f : lJ X pins H a) (hs : X.s₀.heap.objs.size ≤ a) (new : gr X.prog X.w (upd H a o) s.heap a o) : Inv X pins σ (upd H a o) s := by
 obtain ⟨f0, f1, f2, f3, f4, f5⟩ := f
 have old : ∀ b ob, X.s₀.heap.get? b = some ob → b ≠ a := fun b ob e z => by subst z; exact absurd (Nat.lt_of_lt_of_le (Heap.lt_size e) hs) (Nat.lt_irrefl _)
 refine ⟨I.ok, I.os, I.bare, ⟨I.base.keep, I.base.slot, fun b ob e n hx => ?_, I.base.there, fun b xs e => ?_, fun b ob u e => ?_, fun b ps e => ?_⟩, I.loc, I.cell, ?_, fun x c e => ?_, fun p hp => ?_, fun b u e => ?_, I.len⟩
 · rw [zP (old b ob e)]; exact I.base.free b ob e n hx
 · have q := I.base.tups b xs e; rw [zP (zV q f0)]; exact q
 · have q := I.base.pX b ob u e; rw [zP (zV q f0)]; exact q
 · obtain ⟨more, q⟩ := I.base.qQ b ps e; exact ⟨more, by rw [zP (zV q f0)]; exact q⟩
 · rw [zP (Ne.symm f1)]; exact I.free
 · rw [zP (f4 x c e)]; exact I.kY x c e
 · obtain ⟨e, n, ne, nf, d⟩ := I.pin p hp
   exact ⟨e, by rw [zP (f5 p hp)]; exact n, ne, nf, d⟩
 · by_cases hb : b = a
   · subst hb; rw [zD] at e; cases e; exact new
   · rw [zP hb] at e
     exact (I.hok b u e).stay (fun c v _ q => q) (fun c q => by rw [zP (zV q f0)]; exact q) fun c xs q => by rw [zP (zV q f0)]; exact q
end
def iZ (X : Cx) (scope : Scope) (C : Addr) (x : Str) (M : List Str) (s₂ : Shared) (H₂ : Hp) (fp : List Addr) : Cx :=
 { X with N := x :: M, s₀ := s₂, H₀ := H₂, env := compEnvC scope (iY X.env scope.names []) C X.env, outer := X.stack, ex := fp, fn := fun _ => false, pn := [], xe := fun _ _ => False }
structure cV (X : Cx) (scope : Scope) (x : Str) (M : List Str) : Prop where
 kind : scope.kind = .function
 cell : ∀ y ∈ scope.names, y.2 ≠ .cell
 names : ∀ y ∈ scope.names, y.2 = .local → scope.names.lookup y.1 = some .local
 loc : scope.names.lookup x = some .local
 nd : (x :: M).Nodup
 free : ∀ y, (y, NameKind.free) ∈ scope.names → X.env.scope.names.lookup y = some .cell ∨ X.env.scope.names.lookup y = some .free
 len : M.length = X.N.length
 sub : ∀ (j : Nat) y, M[j]? = some y → scope.names.lookup y = some .local ∨ scope.names.lookup y = some .free → X.N[j]? = some y ∧ scope.names.lookup y = some .free
def RC (names outer : List (Str × NameKind)) (N M : List Str) (x : Str) : Bool :=
 names.all (fun y => decide (y.2 ≠ .cell)) && names.all (fun y => decide (y.2 = .local → names.lookup y.1 = some .local)) && decide (names.lookup x = some .local) && decide (x :: M).Nodup &&
 names.all (fun y => decide (y.2 = .free → (outer.lookup y.1 = some .cell ∨ outer.lookup y.1 = some .free))) && decide (M.length = N.length) &&
 (M.zip N).all (fun p => decide (names.lookup p.1 = some .local ∨ names.lookup p.1 = some .free → p.1 = p.2 ∧ names.lookup p.1 = some .free))
theorem yQ {X : Cx} {scope : Scope} {x : Str} {M : List Str} (hk : scope.kind = .function) (h : RC scope.names X.env.scope.names X.N M x = true) : cV X scope x M := by
 unfold RC at h
 simp only [Bool.and_eq_true, List.all_eq_true, decide_eq_true_eq] at h
 obtain ⟨⟨⟨⟨⟨⟨h1, h2⟩, h3⟩, h4⟩, h5⟩, h6⟩, h7⟩ := h
 refine ⟨hk, h1, h2, h3, h4, fun y hy => h5 _ hy rfl, h6, fun j y e q => ?_⟩
 have hj : j < M.length := (List.getElem?_eq_some_iff.mp e).1
 have hj2 : j < X.N.length := by omega
 have z : (M.zip X.N)[j]? = some (y, X.N[j]) := by rw [List.getElem?_zip_eq_some]; exact ⟨e, by simp [hj2]⟩
 have r := h7 _ (List.mem_of_getElem? z) q
 exact ⟨by rw [List.getElem?_eq_getElem hj2]; exact congrArg some r.1.symm, r.2⟩
section
variable {X : Cx} {scope : Scope} {x : Str} {M : List Str} {pins : List (Addr × Obj)} {σ : St} {H₂ : Hp} {s₂ : Shared}
theorem cV.vJ {y : Str} {c : Addr} (h : (iY X.env scope.names []).lookup y = some c) : X.env.cells.lookup y = some c := by
 rcases M9 (PySem.mem_of_lookup h) with q | q
 · cases q
 · exact q
theorem cV.Qn (K : cV X scope x M) (ok : X.Ok) {y : Str} (h : (y, NameKind.free) ∈ scope.names) : ∃ c, (iY X.env scope.names []).lookup y = some c ∧ X.env.cells.lookup y = some c := by
 have e1 : ∃ c, X.env.cells.lookup y = some c := ok.has y (K.free y h)
 obtain ⟨c, hc⟩ := Nb (env := X.env) (ns := scope.names) (cs := []) (y := y) (.inr ⟨h, e1⟩)
 have q : ∃ c, (iY X.env scope.names []).lookup y = some c := by
   cases e : (iY X.env scope.names []).lookup y with
   | some c => exact ⟨c, rfl⟩
   | none =>
     rw [List.lookup_eq_none_iff] at e
     have := e _ hc
     simp at this
 obtain ⟨c', hc'⟩ := q
 exact ⟨c', hc', cV.vJ hc'⟩
theorem cV.closure (K : cV X scope x M) (ok : X.Ok) : closureFor scope X.env = pure (iY X.env scope.names []) :=
 Qm fun y hy => by obtain ⟨c, _, q⟩ := K.Qn ok hy; exact ⟨c, q⟩
theorem FN (K : cV X scope x M) (I : Inv X pins σ H₂ s₂) {fp : List Addr} (hf : ∀ b ∈ fp, lJ X pins H₂ b) (hfl : ∀ b ∈ fp, b < s₂.heap.objs.size) {C : Addr} (hC : s₂.heap.objs.size ≤ C) {h₁ : Heap} {t : Nat} {m : Str → Option Value} (hn : h₁.Ns C m)
   (hk : ∀ b o, s₂.heap.get? b = some o → h₁.get? b = some o) : Inv (iZ X scope C x M s₂ H₂ fp) [] (none :: σ) H₂ { s₂ with heap := h₁, toks := t } := by
 have lt : ∀ {b : Addr} {o : Obj}, s₂.heap.get? b = some o → b ≠ C := fun {b o} e z => by subst z; exact absurd (Nat.lt_of_lt_of_le (Heap.lt_size e) hC) (Nat.lt_irrefl _)
 have cC : ∀ y c, (iY X.env scope.names []).lookup y = some c → c ≠ C := fun y c e => by
   obtain ⟨v, o, ho, _⟩ := I.cell y c (cV.vJ e)
   exact lt ho
 have sub : ∀ b ∈ frs X.stack, b = X.env.locals ∨ b ∈ X.fs := fun b hb => List.mem_cons.mp (I.sZ b hb)
 have ok : (iZ X scope C x M s₂ H₂ fp).Ok := by
   refine ⟨I.ok.mod, K.kind, I.ok.glob, I.ok.blt, hC, fun y z c h1 h2 => ?_, fun y hy => ?_, fun y c z => ?_, I.ok.hd, I.ok.frames, .inl rfl, fun b hb => ⟨?_, fun y c e => ?_⟩, I.bs, Nat.le_trans I.ok.UL I.sz, fun b o e hb => ?_, fun b hb hb2 => ?_, I.stack, I.Ku⟩
   · exact I.ok.inj y z c (cV.vJ h1) (cV.vJ h2)
   · have hy' : (relabel scope X.env).names.lookup y = some .cell ∨ (relabel scope X.env).names.lookup y = some .free := hy
     have q : (y, NameKind.free) ∈ scope.names := by
       unfold relabel at hy'
       rw [xV] at hy'
       cases e : scope.names.lookup y with
       | none => rw [e] at hy'; simp at hy'
       | some k =>
         have hm := PySem.mem_of_lookup e
         cases k with
         | free => exact hm
         | cell => exact absurd rfl (K.cell _ hm)
         | _ => rw [e] at hy'; simp at hy'
     obtain ⟨c, q, _⟩ := K.Qn I.ok q
     exact ⟨c, q⟩
   · exact Bool.noConfusion (show false = true from z)
   · intro z
     have z' : b = C := z
     subst z'
     exact absurd (Nat.lt_of_lt_of_le (hfl b hb) hC) (Nat.lt_irrefl _)
   · exact (hf b hb).2.2.2.2.1 y c (cV.vJ e)
   · have q := (hf b hb).2.2.2.1
     rcases q with q | q
     · exact I.ok.S7 b o e q
     · exact absurd (Nat.lt_of_lt_of_le (Heap.lt_size (I.ok.bs b o e).1) q) (Nat.lt_irrefl _)
   · rcases sub b hb2 with z | z
     · exact (hf b hb).2.1 z
     · exact (hf b hb).2.2.1 z
 refine ⟨ok, rfl, I.bare, Un.kept hk, ⟨m, hn, fun i y v e1 e2 e3 => ?_⟩, fun y c e => ?_, ?_, fun y c e => ?_, fun p hp => absurd (show p ∈ ([] : List (Addr × Obj)) from hp) (by simp), I.hok.kept hk, ?_⟩
 · cases i with
   | zero =>
     have e2' : some (none : Option V) = some (some v) := e2
     cases e2'
   | succ j =>
     have e1' : M[j]? = some y := e1
     have e2' : σ[j]? = some (some v) := e2
     have e3' : (relabel scope X.env).names.lookup y = some .local ∨ (relabel scope X.env).names.lookup y = some .cell ∨ (relabel scope X.env).names.lookup y = some .free := e3
     have q : scope.names.lookup y = some .local ∨ scope.names.lookup y = some .free := by
       unfold relabel at e3'
       rw [xV] at e3'
       cases e : scope.names.lookup y with
       | none => rw [e] at e3'; simp at e3'
       | some k =>
         have hm := PySem.mem_of_lookup e
         cases k with
         | free => exact .inr rfl
         | «local» => exact .inl rfl
         | cell => exact absurd rfl (K.cell _ hm)
         | _ => rw [e] at e3'; simp at e3'
     obtain ⟨nj, fr⟩ := K.sub j y e1' q
     have hm := PySem.mem_of_lookup fr
     have kd := K.free y hm
     have vs : Vis X.env.scope y := .inr kd
     obtain ⟨mo, _, lo⟩ := I.loc
     obtain ⟨u, r, l⟩ := lo j y v nj e2' vs
     refine ⟨u, r, .inr ⟨?_, ?_⟩⟩
     · show (relabel scope X.env).names.lookup y = some .cell ∨ (relabel scope X.env).names.lookup y = some .free
       unfold relabel
       rw [xV, fr]
       simp only [Option.map_some]
       split
       · exact .inl rfl
       · exact .inr rfl
     · obtain ⟨c, q1, q2⟩ := K.Qn I.ok hm
       rcases l with ⟨k, _⟩ | ⟨_, c', q3, z⟩
       · have k' : X.env.scope.names.lookup y = some .local := k
         rcases kd with kd | kd <;> · rw [k'] at kd; cases kd
       · rw [q2] at q3
         cases q3
         obtain ⟨oc, ho, hd⟩ := z
         exact ⟨c, q1, oc, hk _ _ ho, hd⟩
 · obtain ⟨v, oc, ho, hd⟩ := I.cell y c (cV.vJ e)
   exact ⟨v, oc, hk _ _ ho, hd⟩
 · exact I.hok.fresh hC
 · exact I.kY y c (cV.vJ e)
 · show (none :: σ).length = (x :: M).length
   rw [List.length_cons, List.length_cons, K.len, I.len]
end
end L2
namespace L2
open PySem PySem.Spec PyProof.Rows PySem.Calls
def Vm (wi : TI) (te : TE) : TE := fun σ H Q => wi σ H fun J H1 => ∃ (n : Nat) (W : Nat → List V → Hp → Prop), n ≤ sizeLine ∧ W 0 [] H1 ∧ ∀ i ys H, i ≤ n → ys.length = i → W i ys H →
 (J.stop i H ∧ ∀ p, H p = none → Q (.ref p) (upd H p (.lst ys))) ∨ (J.go i H ∧ i < n ∧ ∀ x H', J.Qg i H x H' → te (some x :: σ) H' fun v Df => W (i + 1) (ys ++ [v]) Df)
section
variable {X : Cx} {scope : Scope} {x : Str} {M : List Str} {pins : List (Addr × Obj)} {σ : St} {H₂ : Hp} {s₂ : Shared} {elt iter : Expr} {px pos : Pos} {te : TE} {wi : TI}
theorem FP (K : cV X scope x M) (hc : X.calm = true) (I : Inv X pins σ H₂ s₂) (he : ∀ (C : Addr) (s₂ : Shared) (H₂ : Hp) (fp : List Addr), PE (iZ X scope C x M s₂ H₂ fp) elt te)
   {it : Addr} {fp : List Addr} {tn : Nat → Heap → Prop} {J : It} (T : Turn X.prog X.w X.K (.Name x px) J fp it tn) (st : tn 0 s₂.heap) (hf : ∀ b ∈ fp, lJ X pins H₂ b) {n : Nat} (hsz : n ≤ sizeLine) {W : Nat → List V → Hp → Prop} {F : List V → Hp → Prop}
   (w0 : W 0 [] H₂) (turn : ∀ i ys H, i ≤ n → ys.length = i → W i ys H → (J.stop i H ∧ F ys H) ∨ (J.go i H ∧ i < n ∧ ∀ x H', J.Qg i H x H' → te (some x :: σ) H' fun v Df => W (i + 1) (ys ++ [v]) Df))
   {E : Value → Shared → Prop} {RR : Value → Addr → Result → Shared → Prop}
   (hRR : ∀ (D C : Addr) (s' : Shared) (H' : Hp) (ys : List V) (m : Str → Option Value), Inv X pins σ (upd H' D (.lst ys)) s' → H' D = none → lJ X pins (upd H' D (.lst ys)) C → s'.heap.Ns C m → F ys H' → RR (.ref D) C (.ok .next) s') :
   wpAny (model X.prog X.w) X.A (newList []) (fun acc s₃ => wpAny (model X.prog X.w) X.A (newFunctionEnv scope X.env.globals (iY X.env scope.names []) [] X.env.qual none .none (some X.env)) (fun cenv s₄ =>
     codeAny (model X.prog X.w) X.A (.compStart (.ListComp elt [⟨.Name x px, iter, [], 0⟩] scope pos) 0 (.ref it) acc { cenv with scope := relabel scope X.env }) (RR acc cenv.locals) s₄) E s₃) E s₂ := by
 refine wpAny_newObj_type (wpAny_newFunctionEnv K.cell (by intro y hy; simp at hy) (fun h₁ hns₁ hsb₁ => ?_) K.kind)
 dsimp only at hns₁ hsb₁ ⊢
 generalize hH2 : s₂.heap.push { cls := .type "list", dict := none, data := .seq ([] : List Value).toArray } = H2 at hns₁ hsb₁ ⊢
 have hC : H2.objs.size = s₂.heap.objs.size + 1 := by rw [← hH2, Heap.size_push]
 have hDC : s₂.heap.objs.size ≠ H2.objs.size := by rw [hC]; exact Nat.ne_of_lt (Nat.lt_succ_self _)
 have below : ∀ b, b < s₂.heap.objs.size → b ≠ H2.objs.size ∧ b ≠ s₂.heap.objs.size := fun b hb => ⟨by rw [hC]; exact Nat.ne_of_lt (Nat.lt_succ_of_lt hb), Nat.ne_of_lt hb⟩
 have hfl : ∀ b ∈ fp, b < s₂.heap.objs.size := fun b hb => by obtain ⟨o, e, _⟩ := T.obj _ _ st b hb; exact Heap.lt_size e
 have old : ∀ b o, s₂.heap.get? b = some o → h₁.get? b = some o := fun b o e => hsb₁.extBut b o (below b (Heap.lt_size e)).1 (Heap.get?_push_of_some _ (hH2 ▸ Heap.get?_push_of_some _ e))
 have hacc : h₁.get? s₂.heap.objs.size = some { cls := .type "list", data := .seq ([] : List Value).toArray 0 } := hsb₁.extBut _ _ hDC (Heap.get?_push_of_some _ (hH2 ▸ Heap.get?_push_size _ rfl))
 generalize hCC : H2.objs.size = C at *
 generalize vK : s₂.heap.objs.size = D at *
 have hCle : s₂.heap.objs.size ≤ C := by rw [vK, hC]; exact Nat.le_succ _
 have st₁ : tn 0 h₁ := T.keep _ _ _ st fun b _ o e => old b o e
 have I₁ := FN (t := s₂.toks + ([] : List (Str × Value)).length) K I hf (fun b hb => by rw [vK]; exact hfl b hb) hCle hns₁ old
 generalize hX' : iZ X scope C x M s₂ H₂ fp = X' at I₁
 have eX : X'.prog = X.prog ∧ X'.w = X.w ∧ X'.K = X.K ∧ X'.calm = true ∧ X'.A = X.A ∧ X'.ex = fp ∧ X'.env = compEnvC scope (iY X.env scope.names []) C X.env ∧ X'.s₀ = s₂ ∧ X'.pn = [] := by
   subst hX'; exact ⟨rfl, rfl, rfl, hc, rfl, rfl, rfl, rfl, rfl⟩
 obtain ⟨eP, ew, eK, ec, eA, eex, Ax, Zz, Vn⟩ := eX
 have eL : X'.env.locals = C := by rw [Ax]; rfl
 have cells' : ∀ y c, X'.env.cells.lookup y = some c → X.env.cells.lookup y = some c := fun y c e => by rw [Ax] at e; exact cV.vJ e
 have efs : X'.fs = frs X.stack := by subst hX'; rfl
 have yc : ∀ b ∈ X'.fs, b = X.env.locals ∨ b ∈ X.fs := fun b hb => List.mem_cons.mp (I.sZ b (by rw [← efs]; exact hb))
 have FQ : ∀ {pn : List (Addr × Obj)} {H' : Hp}, (∀ p ∈ pn, p.1 = D) → (∀ b ∈ fp, H' b = none) → ∀ b ∈ fp, lJ X' pn H' b := fun {pn H'} hp hn b hb => by
   refine ⟨hn b hb, ?_, fun z => ?_, .inl (by rw [eex]; exact hb), fun y c e => (hf b hb).2.2.2.2.1 y c (cells' y c e), fun p hq => ?_⟩
   · rw [eL]; exact (below b (hfl b hb)).1
   · rcases yc b z with q | q
     · exact (hf b hb).2.1 q
     · exact (hf b hb).2.2.1 q
   · rw [Vn, List.nil_append] at hq
     rw [hp p hq]; exact Ne.symm (below b (hfl b hb)).2
 have Dfp : D ∉ fp := fun z => Nat.lt_irrefl _ (hfl D z)
 have Nf : X.env.locals < D := by have := I.lt; rw [vK] at this; exact this
 have Vo : ∀ b ∈ X.fs, b < D := fun b hb => Nat.lt_of_not_le fun z => I.XQ (a := b) (by rw [vK]; exact z) hb
 have Ng : ∀ {b : Addr} {pn : List (Addr × Obj)} {H' : Hp}, D ≤ b → b ≠ C → H' b = none → (∀ p ∈ pn, p.1 ≠ b) → lJ X' pn H' b := fun {b pn H'} hb hbC hn hp => by
   refine ⟨hn, by rw [eL]; exact hbC, fun z => ?_, .inr (by rw [Zz, vK]; exact hb), fun y c e => ?_, fun p hq => ?_⟩
   · rcases yc b z with q | q
     · rw [q] at hb; exact absurd (Nat.lt_of_lt_of_le Nf hb) (Nat.lt_irrefl _)
     · exact absurd (Nat.lt_of_lt_of_le (Vo b q) hb) (Nat.lt_irrefl _)
   · obtain ⟨v, o, ho, _⟩ := I.cell y c (cells' y c e)
     have := Heap.lt_size ho
     rw [vK] at this
     exact Nat.ne_of_lt (Nat.lt_of_lt_of_le this hb)
   · rw [Vn, List.nil_append] at hq
     exact hp p hq
 have outer : ∀ {σ' : St} {H' : Hp} {s' : Shared} {pn : List (Addr × Obj)}, Inv X' pn σ' H' s' → Inv X pins σ H' s' := fun {σ' H' s' pn} J' => by
   subst hX'
   refine I.call' (ch := fp) J'.os J'.base J'.hok J'.bare fun b hb => ?_
   obtain ⟨f0, f1, f2, f3, f4, f5⟩ := hf b hb
   exact ⟨f3, f1, f4, f5⟩
 have Cm : ∀ {b : Addr} {H' : Hp}, D ≤ b → H' b = none → lJ X pins H' b := fun {b H'} hb hn => by
   have q := I.Kv (H' := H') (b := b) (by rw [vK]; exact hb) hn
   exact q
 have loop : ∀ s₃ : Shared, s₃ = { s₂ with heap := h₁, toks := s₂.toks + ([] : List (Str × Value)).length } →
     codeAny (model X.prog X.w) X.A (.compLoop (.ListComp elt [⟨.Name x px, iter, [], 0⟩] scope pos) 0 (.ref it) (.ref D) (compEnvC scope (iY X.env scope.names []) C X.env)) (RR (.ref D) C) s₃ := by
   rintro s₃ rfl
   refine Ck (fun k s' => ∃ (i : Nat) (ys : List V) (its : List Value) (σ0 : Option V) (H' : Hp), i ≤ n ∧ k = n + 1 - i ∧ ys.length = i ∧ Inv X' [] (σ0 :: σ) H' s' ∧ tn i s'.heap ∧ (∀ b ∈ fp, H' b = none) ∧ H' D = none ∧ Vals ys its ∧
     (∃ c, s'.heap.get? D = some { cls := .type "list", data := .seq its.toArray c }) ∧ W i ys H') ?_ (n + 1) ⟨0, [], [], none, H₂, Nat.zero_le _, rfl, rfl, I₁, st₁, fun b hb => (hf b hb).1, by rw [← vK]; exact I.hok.fresh (Nat.le_refl _), .nil, ⟨0, hacc⟩, w0⟩
   rintro k s' ⟨i, ys, its, σ0, H', hi, rfl, hyl, I', st', fr', hD', rv, ⟨c, hobj⟩, w'⟩
   have hx0 : X'.N[0]? = some x := by subst hX'; rfl
   have hxl : X'.env.scope.names.lookup x = some .local := by rw [Ax]; exact lookup_relabel_local K.loc
   have hNd : X'.N.Nodup := by subst hX'; exact K.nd
   rcases turn i ys H' hi hyl w' with ⟨stop, fin⟩ | ⟨go, hlt, step⟩
   · have FT : Inv X' [(D, { cls := .type "list", data := .seq its.toArray c })] (σ0 :: σ) H' s' := I'.iB fun p hp => by
       obtain rfl : p = (D, { cls := .type "list", data := .seq its.toArray c }) := by simpa using hp
       refine ⟨hobj, hD', ?_, ?_, fun v z => nomatch z⟩
       · rw [eL]; exact hDC
       · intro z
         rcases yc D z with q | q
         · rw [q] at Nf; exact Nat.lt_irrefl _ Nf
         · exact Nat.lt_irrefl _ (Vo D q)
     have q := T.done X' eP ew eK ec i _ s' (σ0 :: σ) H' (notedBy (model X.prog X.w) X.A (compEnvC scope (iY X.env scope.names []) C X.env) fun e s' => RR (.ref D) C (.error e) s') FT (FQ (fun p hp => by obtain rfl : p = (D, { cls := .type "list", data := .seq its.toArray c }) := (by simpa using hp); rfl) fr') st' stop
     rw [eA] at q
     refine wpAny_mono q (fun r s4 ⟨hr, I4⟩ => ?_) fun _ _ z => z
     subst hr
     obtain ⟨e4, n4, _⟩ := I4.pin (D, { cls := .type "list", data := .seq its.toArray c }) (List.mem_append_right _ (by simp))
     have O4 := outer I4
     obtain ⟨m4, ZC, _⟩ := I4.loc
     rw [eL] at ZC
     refine hRR D C s4 H' ys m4 (O4.track (Cm (Nat.le_refl _) n4) (Nat.le_trans I.sz (by rw [vK]; exact Nat.le_refl _)) ⟨by rw [hyl]; exact Nat.le_trans hi hsz, its, c, rv, e4⟩) n4 (Cm (by rw [hC]; exact Nat.le_succ _) ?_) ZC fin
     rw [zP (Ne.symm hDC)]
     have := I4.free
     rw [eL] at this
     exact this
   · have FT : Inv X' [(D, { cls := .type "list", data := .seq its.toArray c })] (σ0 :: σ) H' s' := I'.iB fun p hp => by
       obtain rfl : p = (D, { cls := .type "list", data := .seq its.toArray c }) := by simpa using hp
       refine ⟨hobj, hD', ?_, ?_, fun v z => nomatch z⟩
       · rw [eL]; exact hDC
       · intro z
         rcases yc D z with q | q
         · rw [q] at Nf; exact Nat.lt_irrefl _ Nf
         · exact Nat.lt_irrefl _ (Vo D q)
     have pd : ∀ p ∈ [(D, ({ cls := .type "list", data := .seq its.toArray c } : Obj))], p.1 = D := fun p hp => by obtain rfl : p = (D, { cls := .type "list", data := .seq its.toArray c }) := (by simpa using hp); rfl
     have q := T.item X' eP ew eK ec i _ s' (σ0 :: σ) H' (notedBy (model X.prog X.w) X.A (compEnvC scope (iY X.env scope.names []) C X.env) fun e s' => RR (.ref D) C (.error e) s') FT (FQ pd fr') st' go
     rw [eA] at q
     refine wpAny_mono q (fun r s4 ⟨u, hr, h4⟩ => ?_) fun _ _ z => z
     subst hr
     refine wpAny_mono h4 (fun _ s5 ⟨xv, H5, I5, r5, y5, MF, Xx⟩ => ?_) fun _ _ z => z
     have I5' := I5.pinned (FQ pd Xx) (T.obj _ _ MF)
     refine wpAny_assign_Name ?_
     rw [← Ax]
     refine tu I5' hNd hx0 (.inl hxl) r5 (fun s6 I6 => ?_) (.inr hxl)
     have te6 := step xv H5 y5
     have q6 := (he C s₂ H₂ fp) (([(D, ({ cls := .type "list", data := .seq its.toArray c } : Obj))]) ++ tG fp s5.heap) s6 (some xv :: σ) H5 (fun v Df => W (i + 1) (ys ++ [v]) Df) (by rw [hX']; exact I6) te6
     rw [hX', eP, ew, eA] at q6
     refine wpAny_mono q6 (fun u7 s7 ⟨v7, H7, I7, r7, w7⟩ => ?_) (fun _ _ z => by subst hX'; exact (show False from z).elim)
     obtain ⟨e7, n7, _⟩ := I7.pin (D, { cls := .type "list", data := .seq its.toArray c }) (List.mem_append_right _ (List.mem_append_left _ (by simp)))
     refine append_at (hsz := by rw [List.size_toArray, ← rv.length, hyl]; exact Nat.le_trans hi hsz) e7 fun h8 ZD g8 => ?_
     have I8 : Inv X' [] (some xv :: σ) H7 { s7 with heap := h8, toks := s7.toks } := (I7.iB (JH := []) fun p hp => absurd hp (by simp)).turned (t' := s7.toks) (it := D) (fun b o hb e => (ZD.2 b hb).trans e) n7 (by rw [eL]; exact hDC) (.inr (by rw [Zz, vK]; exact Nat.le_refl _))
       (Ng (H' := H7) (pn := []) (Nat.le_refl _) hDC n7 (fun p hp => absurd hp (by simp))).2.2.2.2.1 (fun p hp => by rw [Vn] at hp; exact absurd hp (by simp))
     refine ⟨n + 1 - (i + 1), by omega, i + 1, ys ++ [v7], its ++ [u7], some xv, H7, hlt, rfl, by rw [List.length_append, List.length_singleton, hyl], I8, ?_, fun b hb => ?_, n7, rv.append (.cons r7 .nil), ⟨c + 1, ?_⟩, w7⟩
     · refine T.keep _ _ _ MF fun b hb o e => ?_
       have e' := (I7.pin (b, o) (List.mem_append_right _ (List.mem_append_right _ (yX hb e)))).1
       exact (ZD.2 b (fun z => Dfp (z ▸ hb))).trans e'
     · obtain ⟨o, e, d⟩ := T.obj _ _ MF b hb
       exact (I7.pin (b, o) (List.mem_append_right _ (List.mem_append_right _ (yX hb e)))).2.1
     · rw [g8, List.push_toArray]
 exact codeAny_compStart_list (loop _ rfl) (T.self X.A 0 _ _ _ st₁ (loop _ rfl))
theorem Yd (K : cV X scope x M) (hc : X.calm = true) (hi : PI X (.Name x px) iter wi) (he : ∀ (C : Addr) (s₂ : Shared) (H₂ : Hp) (fp : List Addr), PE (iZ X scope C x M s₂ H₂ fp) elt te)
   (hs : ∀ x, foldedSetIterable iter X.env x = pure x := by intro _; rfl) : PE X (.ListComp elt [⟨.Name x px, iter, [], 0⟩] scope pos) (Vm wi te) := by
 intro pins s σ H Q I h
 rw [eval_ListComp]
 refine wpAny_comprehension_free (use := none) rfl hs (K.closure I.ok) K.kind K.names (eY (hi pins s σ H _ I h) fun v s1 h1 => eY h1 fun itv s2 h2 => ?_)
 obtain ⟨it, fp, tn, J, H2, e, I2, T, st2, f2, n, W, hsz, w0, turn⟩ := h2
 subst e
 refine FP (RR := fun acc C => compPost (model X.prog X.w) X.A X.xe none (EP X pins σ Q) acc C) K hc I2 he T st2 f2 hsz (F := fun ys H => ∀ p, H p = none → Q (.ref p) (upd H p (.lst ys))) w0 turn ?_
 intro D C s' H' ys m I' n' fC ns fin
 refine ⟨m, ns, fun h' sb => ?_⟩
 obtain ⟨f0, f1, f2, f3, f4, f5⟩ := fC
 exact ⟨.ref D, _, I'.turned (t' := s'.toks) (it := C) (fun b o hb e => (sb.2 b hb).trans e) f0 f1 f3 f4 f5, rfl, fin D n'⟩
theorem Ye {i : Nat} {y : Str} {spos py : Pos} (hN : X.N.Nodup) (hy : X.N[i]? = some y) (hl : Loc X.env.scope y) (K : cV X scope x M) (hc : X.calm = true) (hi : PI X (.Name x px) iter wi) (he : ∀ (C : Addr) (s₂ : Shared) (H₂ : Hp) (fp : List Addr), PE (iZ X scope C x M s₂ H₂ fp) elt te)
   (hsw : swapsWith (.ListComp elt [⟨.Name x px, iter, [], 0⟩] scope pos) (some (.Name y py)) spos.line X.env = pure true := by rfl)
   (hs : ∀ x, foldedSetIterable iter X.env x = pure x := by intro _; rfl) (hf : X.fn y = true ∨ X.env.scope.names.lookup y = some .local := by first | exact .inl rfl | exact .inr rfl | assumption) :
   PS X (.Assign [.Name y py] (.ListComp elt [⟨.Name x px, iter, [], 0⟩] scope pos) spos) (S9 (Vm wi te) (gf i)) := by
 intro pins s σ H Dn I h
 rw [exec_Assign_Name_used _ _ _ _ hsw]
 refine wpAny_bind (wpAny_standAt (wpAny_bind ?_))
 show wpAny _ X.A (do let _ ← comprehension (.ListComp elt [⟨.Name x px, iter, [], 0⟩] scope pos) scope X.env _ (newList []) false (eval iter X.env) (some (assign (.Name y py) X.env))) _ _ s
 refine wpAny_bind (eY (wpAny_comprehension_free (use := some (assign (.Name y py) X.env)) (Q := fun _ s' => SP X pins Dn .next s') rfl hs (K.closure I.ok) K.kind K.names (eY (hi pins s σ H _ I h) fun v s1 h1 => eY h1 fun itv s2 h2 => ?_)) fun _ s' hq => wpAny_pure (wpAny_pure hq))
 obtain ⟨it, fp, tn, J, H2, e, I2, T, st2, f2, n, W, hsz, w0, turn⟩ := h2
 subst e
 refine FP (RR := fun acc C => compPost (model X.prog X.w) X.A X.xe (some (assign (.Name y py) X.env)) (fun _ s' => SP X pins Dn .next s') acc C) K hc I2 he T st2 f2 hsz (F := fun ys H => ∀ p, H p = none → Dn.nx (σ.set i (some (.ref p))) (upd H p (.lst ys))) w0 turn ?_
 intro D C s' H' ys m I' n' fC ns fin
 refine wpAny_assign_Name (Aq (v := .ref D) I' hN hy hl rfl (fun s'' I'' ch => ?_) hf)
 obtain ⟨f0, f1, f2, f3, f4, f5⟩ := fC
 obtain ⟨a, sb1, ha⟩ := ch
 have hCa : C ≠ a := by
   rcases ha with z | z
   · rw [z]; exact f1
   · exact Ne.symm (f4 y a z)
 refine ⟨m, ns.sameBut sb1 hCa, fun h' sb => ?_⟩
 exact ⟨_, _, I''.turned (t' := s''.toks) (it := C) (fun b o hb e => (sb.2 b hb).trans e) f0 f1 f3 f4 f5, fin D n'⟩
end
end L2
namespace L2
open PySem PySem.Spec PyProof.Rows PySem.Calls
def S (l : List Nat) : Str := ⟨l.toArray⟩
abbrev cd (x : Str) : List Nat := x.cps.toList
theorem dq (l : List Nat) : cd (S l) = l := rfl
theorem fL (x : Str) : S (cd x) = x := by cases x; rfl
theorem ZF {a b : List Nat} (h : S a = S b) : a = b := congrArg cd h
theorem yY {x y : Str} (h : cd x = cd y) : x = y := by rw [← fL x, ← fL y, h]
theorem zW (l : List Nat) : (S l).length = l.length := by show l.toArray.size = _; simp
theorem yD (x : Str) : x.length = (cd x).length := by show x.cps.size = _; simp
theorem xN (a b : List Nat) : S a ++ S b = S (a ++ b) := by
 show (⟨a.toArray ++ b.toArray⟩ : Str) = ⟨(a ++ b).toArray⟩
 simp
theorem yF (x y : Str) : cd (x ++ y) = cd x ++ cd y := by
 show (x.cps ++ y.cps).toList = _
 simp
def Xy (x : Str) : It := ⟨fun i _ => i < x.length, fun i H v H' => H' = H ∧ ∃ c, (cd x)[i]? = some c ∧ v = .str (S [c]), fun i _ => i = x.length⟩
theorem JV {prog : Program} {w : World} {A : Around} (hh : A.handled = none) (I : Addr) (x : Str) (t : Tok) : Walks prog w A I [I] [I] x.cps.size (SignAt x) (fun i h => h.IsStrIter I (strIterType x) x t i) := by
 unfold strIterType
 split
 · exact Walks.strAscii hh I x t
 · exact Walks.strWide hh I x t
theorem Vp {P : Program} {w : World} {K : PySem.W.Frag} {tg : Expr} (it : Addr) (x : Str) (t : Tok) : Turn P w K tg (Xy x) [it] it (fun i h => h.IsStrIter it (strIterType x) x t i) where
 mem := by simp
 obj := fun i h st b hb => by
   have e : b = it := by simpa using hb
   subst e
   obtain ⟨o, e, c, d⟩ := st
   exact ⟨o, e, fun v z => by rw [d] at z; cases z⟩
 keep := fun i h h' st k => by
   obtain ⟨o, e, r⟩ := st
   exact ⟨o, k it (by simp) o e, r⟩
 item := by
   intro X hP hw hK hc i pins s σ H E I hf st hg
   subst hP hw hK
   have W := JV (prog := X.prog) (w := X.w) (A := X.A) (I.ok.hd hc) it x t
   obtain ⟨f0, f1, f2, f3, f4, f5⟩ := hf it (by simp)
   refine W.item i s _ E hg st fun v h' tk hv st' k => ?_
   have I1 : Inv X pins σ H { s with heap := h', toks := tk } := I.turned (t' := tk) (fun b o hb e => k b o (by simpa using hb) e) f0 f1 f3 f4 f5
   obtain ⟨c, u, hcx, rfl⟩ := hv
   obtain ⟨o, e, c1, d⟩ := id st'
   refine ⟨_, rfl, U5 (s := { s with heap := h', toks := tk }) e c1 d ?_ ⟨.str (S [c]), H, I1, ⟨_, rfl⟩, ⟨rfl, c, by rw [← hcx]; simp [cd], rfl⟩, st', fun b hb => (hf b hb).1⟩⟩
   unfold strIterType; split <;> decide
 done := by
   intro X hP hw hK hc i pins s σ H E I hf st hg
   subst hP hw hK
   have W := JV (prog := X.prog) (w := X.w) (A := X.A) (I.ok.hd hc) it x t
   obtain ⟨f0, f1, f2, f3, f4, f5⟩ := hf it (by simp)
   have e : i = x.cps.size := hg
   subst e
   exact W.done s _ E st fun h' tk k => ⟨rfl, I.turned (t' := tk) (fun b o hb e => k b o (by simpa using hb) e) f0 f1 f3 f4 f5⟩
 self := fun A i s Q E st h => by
   obtain ⟨o, e, c, d⟩ := id st
   unfold strIterType at st
   split at st
   · exact wpAny_pyIter_striter_ascii st h
   · exact wpAny_pyIter_striter_wide st h
section
variable {X : Cx} {tg : Expr}
def api (tl : TE) : TI := fun σ H R => tl σ H fun v H1 => ∃ x, v = .str x ∧ R (Xy x) H1
theorem Ay {l : Expr} {tl : TE} (hl : PE X l tl) : PI X tg l (api tl) := by
 intro pins s σ H R I h
 refine eY (hl pins s σ H _ I h) fun v s1 ⟨x, H1, I1, r1, q1⟩ => ?_
 obtain ⟨x, rfl, q⟩ := q1
 obtain ⟨t, rfl⟩ := r1
 refine wpAny_pyIter_strU ?_
 refine ⟨s1.heap.objs.size, [s1.heap.objs.size], _, _, H1, rfl, I1.kept (t' := s1.toks) fun b o e => Heap.get?_push_of_some _ e, Vp _ x t, ⟨_, Heap.get?_push_size _ rfl, rfl, rfl⟩, fun b hb => ?_, q⟩
 have e : b = s1.heap.objs.size := by simpa using hb
 subst e
 exact I1.Kv (Nat.le_refl _) (I1.hok.fresh (Nat.le_refl _))
end
theorem Yg {x : Str} {g : TG} {tb : TS} {D : Ends} {σ : St} {H : Hp} (Pv : Nat → St → Hp → Prop) (h0 : Pv 0 σ H)
   (hs : ∀ i c σ H, (cd x)[i]? = some c → Pv i σ H → g (.str (S [c])) σ H fun σ2 H2 => tb { D with nx := Pv (i + 1), ct := Pv (i + 1), bk := D.nx } σ2 H2) (hd : ∀ σ H, Pv x.length σ H → D.nx σ H) :
   ∃ W : Nat → Nat → St → Hp → Prop, (∃ m, W 0 m σ H) ∧ ∀ i m σ H, W i m σ H →
     ((Xy x).stop i H ∧ D.nx σ H) ∨ ((Xy x).go i H ∧ ∃ N : St → Hp → Prop, (∀ σ' H', N σ' H' → ∃ m', m' < m ∧ W (i + 1) m' σ' H') ∧ ∀ v H', (Xy x).Qg i H v H' → g v σ H' fun σ2 H2 => tb { D with nx := N, ct := N, bk := D.nx } σ2 H2) := by
 refine ⟨fun i m σ H => m = x.length - i ∧ i ≤ x.length ∧ Pv i σ H, ⟨x.length, by simp, Nat.zero_le _, h0⟩, ?_⟩
 rintro i m σ H ⟨rfl, hi, p⟩
 by_cases hlt : i < x.length
 · refine .inr ⟨hlt, Pv (i + 1), fun σ' H' p' => ⟨x.length - (i + 1), by omega, rfl, hlt, p'⟩, fun v H' y => ?_⟩
   obtain ⟨e, c, hc, rfl⟩ := y
   subst e
   exact hs i c σ _ hc p
 · have e : i = x.length := by omega
   subst e
   exact .inl ⟨rfl, hd σ H p⟩
theorem Vq {x : Str} {te : TE} {σ : St} {H : Hp} {Q : VK} (hz : x.length ≤ sizeLine) (W : Nat → List V → Hp → Prop) (h0 : W 0 [] H)
   (hs : ∀ i c ys H, (cd x)[i]? = some c → ys.length = i → W i ys H → te (some (.str (S [c])) :: σ) H fun v H' => W (i + 1) (ys ++ [v]) H')
   (hd : ∀ ys H, ys.length = x.length → W x.length ys H → ∀ p, H p = none → Q (.ref p) (upd H p (.lst ys))) :
   ∃ (n : Nat) (W : Nat → List V → Hp → Prop), n ≤ sizeLine ∧ W 0 [] H ∧ ∀ i ys H, i ≤ n → ys.length = i → W i ys H →
     ((Xy x).stop i H ∧ ∀ p, H p = none → Q (.ref p) (upd H p (.lst ys))) ∨ ((Xy x).go i H ∧ i < n ∧ ∀ v H', (Xy x).Qg i H v H' → te (some v :: σ) H' fun v Df => W (i + 1) (ys ++ [v]) Df) := by
 refine ⟨x.length, W, hz, h0, fun i ys H hi hl hw => ?_⟩
 by_cases hlt : i < x.length
 · refine .inr ⟨hlt, hlt, fun v H' y => ?_⟩
   obtain ⟨e, c, hc, rfl⟩ := y
   subst e
   exact hs i c ys _ hc hl hw
 · have e : i = x.length := by omega
   subst e
   exact .inl ⟨rfl, hd ys H hl hw⟩
theorem Qo {lo : Int} {n : Nat} {te : TE} {σ : St} {H : Hp} {Q : VK} (hz : n ≤ sizeLine) (W : Nat → List V → Hp → Prop) (h0 : W 0 [] H)
   (hs : ∀ i ys H, i < n → ys.length = i → W i ys H → te (some (.int (lo + i)) :: σ) H fun v H' => W (i + 1) (ys ++ [v]) H')
   (hd : ∀ ys H, ys.length = n → W n ys H → ∀ p, H p = none → Q (.ref p) (upd H p (.lst ys))) :
   ∃ (m : Nat) (W : Nat → List V → Hp → Prop), m ≤ sizeLine ∧ W 0 [] H ∧ ∀ i ys H, i ≤ m → ys.length = i → W i ys H →
     ((U6 lo n).stop i H ∧ ∀ p, H p = none → Q (.ref p) (upd H p (.lst ys))) ∨ ((U6 lo n).go i H ∧ i < m ∧ ∀ v H', (U6 lo n).Qg i H v H' → te (some v :: σ) H' fun v Df => W (i + 1) (ys ++ [v]) Df) := by
 refine ⟨n, W, hz, h0, fun i ys H hi hl hw => ?_⟩
 by_cases hlt : i < n
 · refine .inr ⟨hlt, hlt, fun v H' y => ?_⟩
   obtain ⟨e, y⟩ := y
   subst e y
   exact hs i ys _ hlt hl hw
 · have e : i = n := by omega
   subst e
   exact .inl ⟨Nat.le_refl _, hd ys H hl hw⟩
theorem Tq {K : PySem.W.Frag} {a : Addr} {xs : List V} {te : TE} {σ : St} {H : Hp} {Q : VK} (hz : xs.length ≤ sizeLine) (W : Nat → List V → Hp → Prop) (h0 : W 0 [] H) (hq : ∀ i ys H, W i ys H → bz K H a xs)
   (hs : ∀ i x ys H, xs[i]? = some x → ys.length = i → W i ys H → te (some x :: σ) H fun v H' => W (i + 1) (ys ++ [v]) H')
   (hd : ∀ ys H, ys.length = xs.length → W xs.length ys H → ∀ p, H p = none → Q (.ref p) (upd H p (.lst ys))) :
   ∃ (m : Nat) (W : Nat → List V → Hp → Prop), m ≤ sizeLine ∧ W 0 [] H ∧ ∀ i ys H, i ≤ m → ys.length = i → W i ys H →
     ((Itl K a).stop i H ∧ ∀ p, H p = none → Q (.ref p) (upd H p (.lst ys))) ∨ ((Itl K a).go i H ∧ i < m ∧ ∀ v H', (Itl K a).Qg i H v H' → te (some v :: σ) H' fun v Df => W (i + 1) (ys ++ [v]) Df) := by
 refine ⟨xs.length, W, hz, h0, fun i ys H hi hl hw => ?_⟩
 have q := hq i ys H hw
 by_cases hlt : i < xs.length
 · refine .inr ⟨⟨xs, xs[i], q, by simp [hlt]⟩, hlt, fun v H' y => ?_⟩
   obtain ⟨e, y⟩ := y
   subst e
   exact hs i v ys _ (y xs q) hl hw
 · have e : i = xs.length := by omega
   subst e
   exact .inl ⟨⟨xs, q, Nat.le_refl _⟩, hd ys H hl hw⟩
section
variable {X : Cx}
theorem yd (hc : X.calm = true) : bL X (.builtin "all") (fun xs H Q => ∃ (p : Addr) (bs : List Bool), xs = [.ref p] ∧ bz X.K H p (bs.map V.bl) ∧ Q (.bl (bs.all id)) H) := by
 intro pins s σ H xs us Q I r h
 obtain ⟨p, bs, rfl, hq, q⟩ := h
 obtain ⟨u, rfl, ru⟩ := vals1 r
 cases ru
 obtain ⟨its, rv, pl, hz⟩ := I.list hq
 have hlt : p < s.heap.objs.size := by obtain ⟨o, n, e, _⟩ := pl; exact Heap.lt_size e
 refine call_all_walk (wpAny_pyIter_list pl.isList ?_)
 refine ⟨_, _, _, _, _, _, fun i => bs.getD i false, rfl, Walks.list (show X.A.in1.handled = none from I.ok.hd hc) s.heap.objs.size p (Nat.ne_of_lt hlt) its.toArray, ⟨⟨_, Heap.get?_push_size _ rfl, rfl, rfl⟩, pl.isList.push _⟩, fun i v s1 Q1 E1 hP hQ => ?_, fun h' tk k => ?_⟩
 · have hP' : its[i]? = some v := by simpa using hP
   obtain ⟨hi, _⟩ := List.getElem?_eq_some_iff.mp hP'
   have hl := rv.length
   rw [List.length_map] at hl
   have hb : (bs.map V.bl)[i]? = some (V.bl (bs.getD i false)) := by
     rw [List.getElem?_map, List.getElem?_eq_getElem (by omega)]
     simp [List.getD, List.getElem?_eq_getElem (show i < bs.length by omega)]
   obtain ⟨u, hu, ru⟩ := rv.get hb
   rw [hP'] at hu
   cases hu
   cases (show v = Value.bool _ from ru)
   exact wpAny_truthy_bool hQ
 · have e : (List.range its.toArray.size).all (fun i => bs.getD i false) = bs.all id := by
     have hl := rv.length
     rw [List.length_map] at hl
     rw [List.size_toArray, ← hl]
     have z : bs = (List.range bs.length).map fun i => bs.getD i false := by
       apply List.ext_getElem?
       intro i
       rw [List.getElem?_map]
       by_cases hi : i < bs.length
       · simp [List.getElem?_eq_getElem, hi, List.getD]
       · rw [List.getElem?_eq_none (Nat.not_lt.mp hi), List.getElem?_eq_none (by rw [List.length_range]; exact Nat.not_lt.mp hi)]; rfl
     conv => rhs; rw [z]
     rw [List.all_map]; rfl
   rw [e]
   refine ⟨.bl (bs.all id), H, ?_, rfl, q⟩
   have I0 : Inv X pins σ H { s with heap := s.heap.push { cls := .type "list_iterator", data := .fields #[.ref p, .int 0 0] } } := I.kept (t' := s.toks) fun b o e => Heap.get?_push_of_some _ e
   have fo := I.Kv (H' := H) (b := s.heap.objs.size) (Nat.le_refl _) I.fresh
   obtain ⟨f0, f1, f2, f3, f4, f5⟩ := fo
   exact I0.turned (t' := tk) (it := s.heap.objs.size) (fun b o hb e => k b o (by simpa using hb) e) f0 f1 f3 f4 f5
theorem qW {ys : List Str} : ∀ {its : List Value}, Vals (ys.map V.str) its → StrsAre its ys := by
 induction ys with
 | nil => intro its r; cases r; exact .nil
 | cons y ys ih =>
   intro its r
   cases r with
   | cons a b => obtain ⟨t, rfl⟩ := a; exact .cons _ _ (ih b)
def FZ (sep : Str) (ys : List Str) : Str := Txt.join sep ys
theorem KJ : MtM X "str.join" (fun x vs H Q => ∃ (sep : Str) (p : Addr) (ys : List Str), x = .str sep ∧ vs = [.ref p] ∧ (bz X.K H p (ys.map V.str) ∨ lG X.K H p (ys.map V.str)) ∧ (ys.map (·.length)).sum + ys.length * sep.length ≤ 16777216 ∧ Q (.str (FZ sep ys)) H) := by
 intro pins s σ H x vs v us Q I rx rv h
 obtain ⟨sep, p, ys, rfl, rfl, hq, hz, q⟩ := h
 obtain ⟨t, rfl⟩ := rx
 obtain ⟨u, rfl, ru⟩ := rv.one
 cases ru
 rcases hq with hq | hq
 · obtain ⟨its, r, pl, _⟩ := I.list hq
   exact join_list pl.isList (by simpa using qW r) hz fun t' k => ⟨.str _, H, I.tok _, ⟨_, rfl⟩, q⟩
 · obtain ⟨its, r, pl, _⟩ := I.tuple hq
   exact join_tuple pl (by simpa using qW r) hz fun t' k => ⟨.str _, H, I.tok _, ⟨_, rfl⟩, q⟩
theorem ye : ir X (binaryOp .Mult) (rI (fun i j => Builtin.Int.intBits i ≤ 60000000 ∧ Builtin.Int.intBits j ≤ 60000000) fun i j => .int (i * j)) := opI fun i j _ _ _ _ _ hc q => mul_int q (IntMulOk.of_le hc.1 hc.2 (by decide))
def nA (xs : List Nat) (lo hi : Option Int) : List Nat := (xs.drop (HT.tH xs.length 0 lo)).take (HT.tH xs.length xs.length hi - HT.tH xs.length 0 lo)
theorem Vr (xs : List Nat) (i k : Nat) : (List.range k).filterMap (fun m => xs[i + m]?) = (xs.drop i).take k := by
 induction k generalizing i with
 | zero => simp
 | succ k ih =>
   rw [List.range_succ_eq_map, List.filterMap_cons]
   have e : (List.map Nat.succ (List.range k)).filterMap (fun m => xs[i + m]?) = (List.range k).filterMap (fun m => xs[(i + 1) + m]?) := by
     rw [List.filterMap_map]
     congr 1
     funext m
     show xs[i + (m + 1)]? = xs[i + 1 + m]?
     congr 1; omega
   rw [e, ih (i + 1)]
   by_cases hi : i < xs.length
   · rw [Nat.add_zero, List.getElem?_eq_getElem hi, List.drop_eq_getElem_cons hi, List.take_succ_cons]
   · rw [Nat.add_zero, List.getElem?_eq_none (Nat.not_lt.mp hi), List.drop_eq_nil_of_le (Nat.not_lt.mp hi), List.drop_eq_nil_of_le (by omega)]
     simp
theorem Tt (lo hi : Option Int) (n : Nat) : Builtin.Str.strSliceIndices lo hi 1 n = (List.range (HT.tH n n hi - HT.tH n 0 lo)).map fun m => HT.tH n 0 lo + m := by
 unfold Builtin.Str.strSliceIndices sliceRange
 have h1 : (1 : Int) > 0 := by omega
 simp only [h1, if_true, Int.ediv_one]
 have cl : ∀ (v : Int) (d : Nat), max 0 (min (if v < 0 then v + (n : Int) else v) (n : Int)) = ((HT.tH n d (some v) : Nat) : Int) := fun v d => by
   show _ = (((if v < 0 then (v + (n : Int)).toNat else min v.toNat n) : Nat) : Int)
   by_cases hv : v < 0
   · simp only [if_pos hv]; omega
   · simp only [if_neg hv]; omega
 have fin : ∀ a b : Nat, (List.range (if (a : Int) < (b : Int) then (b : Int) - (a : Int) + 1 - 1 else 0).toNat).map (fun k : Nat => ((a : Int) + 1 * (k : Int)).toNat) = (List.range (b - a)).map fun m => a + m := fun a b => by
   have e1 : (if (a : Int) < (b : Int) then (b : Int) - (a : Int) + 1 - 1 else 0).toNat = b - a := by split <;> omega
   rw [e1]
   apply List.map_congr_left
   intro k _
   omega
 cases lo with
 | none =>
   cases hi with
   | none => exact fin 0 n
   | some v => simp only [cl v n]; exact fin 0 _
 | some u =>
   cases hi with
   | none => simp only [cl u 0]; exact fin _ n
   | some v => simp only [cl u 0, cl v n]; exact fin _ _
theorem Vs (x : Str) (lo hi : Option Int) : Txt.slice x lo hi = S (nA (cd x) lo hi) := by
 unfold Txt.slice
 rw [Tt]
 have hx : x.length = (cd x).length := yD x
 split
 · rename_i h
   simp only [Bool.and_eq_true, beq_iff_eq, List.length_map, List.length_range] at h
   rw [hx] at h
   have h2 := h.2
   have l1 := HT.aaL (cd x).length (cd x).length (Nat.le_refl _) hi
   unfold nA
   rw [h2]
   have l0 : HT.tH (cd x).length 0 lo = 0 ∨ (cd x).length = 0 := by omega
   rcases l0 with l0 | l0
   · rw [l0, List.drop_zero, List.take_length, fL]
   · have e : cd x = [] := List.eq_nil_of_length_eq_zero l0
     apply yY
     rw [e]; simp [dq]
 · rw [List.filterMap_map]
   unfold S nA
   congr 2
   rw [← Vr, hx]
   congr 1
   funext m
   show x.cps[_]? = (cd x)[_]?
   simp [cd]
theorem pD : sy X (fun x lo hi H Q => ∃ z, x = .str z ∧ z.length ≤ sizeLine ∧ Q (.str (S (nA (cd z) lo hi))) H) := by
 intro pins s σ H x v vl vu lo hi sl Q I rx hs pl pu h
 obtain ⟨z, rfl, hz, q⟩ := h
 obtain ⟨t, rfl⟩ := rx
 refine ⟨"str", _, slot_str_getitem.lookup, typeIs_str s z t, ?_⟩
 rw [← Vs] at q
 have fin : ∀ (l u : Option (Int × Tok)), l.map (·.1) = lo → u.map (·.1) = hi → vl = partValue l → vu = partValue u → wpAny (model X.prog X.w) X.A (getItem (.str z t) (.ref sl)) (EP X pins σ Q) X.xe s := fun l u e1 e2 e3 e4 => by
   subst e3 e4
   obtain ⟨o, ho, hc, hd⟩ := hs
   subst e1 e2
   exact wpAny_getItem_str_slice (l := l) (u := u) (st := none) ⟨o, ho, hc, hd⟩ rfl (post_val_or_str ⟨Nat.le_trans (Txt.slice_le z _ _) hz, fun t' k => ⟨.str _, H, I.tok _, ⟨_, rfl⟩, q⟩⟩)
 cases pl with
 | none =>
   cases pu with
   | none => exact fin none none rfl rfl rfl rfl
   | int i t => exact fin none (some (i, t)) rfl rfl rfl rfl
 | int j t' =>
   cases pu with
   | none => exact fin (some (j, t')) none rfl rfl rfl rfl
   | int i t => exact fin (some (j, t')) (some (i, t)) rfl rfl rfl rfl
end
end L2
namespace Att
open PySem PySem.W PySem.Calls PyProof.Rows
theorem Nh {ns : List Int} (h : WData.layableAll [WData.list (ns.map WData.int)] = true) : ∀ n ∈ ns, Builtin.Int.intBits n ≤ 1048576 := by
 have h1 : (WData.list (ns.map WData.int)).layable = true := by simpa [WData.layableAll] using h
 intro n hn
 have h2 := layableW_item h1 (.int n) (List.mem_map.mpr ⟨n, hn, rfl⟩)
 have h3 := (layableW_iff.mp h2).2.2
 simpa [WData.weight, Builtin.Int.intBits] using h3
theorem KN {l : OpenLaw} {n : Nat} {q : Program} {loose : List Str} {XP : (Str → Option Value) → Heap → Prop} {YP : World → Heap → Prop} {d : DefRec}
   (hn : l.most = some n) (hdf : d.params.defaults = [])
   (call : ∀ (w : World) (s₀ s₁ : Shared) (mg mb : Str → Option Value) (fa : Addr) (o : Obj) (pm cd doc : Value) (a : Addr) (vs : List Value) (ns : List Int),
     Ground q loose [] XP w s₀ mg mb s₁.heap → YP w s₁.heap →
     s₁.heap.get? fa = some o → o.data = .func (docDef d.name d.params d.body d.scope pm cd doc) → s₁.heap.CodeRec cd d.name → mg d.name = some (.ref fa) →
     s₁.heap.get? a = some { cls := .type "list", data := .seq vs.toArray } → IntsAre vs ns → ns.length ≤ n → (∀ n ∈ ns, Builtin.Int.intBits n ≤ 1048576) → s₁.gens = #[] →
     codeAny (model l.prog w) callerA (.call (.ref fa) ⟨[.ref a], []⟩) (fun r s' => r = .ok (.ret (.bool true)) ∧ OldK s₁.heap s'.heap ∧ s'.os = s₁.os ∧ AllBare s'.gens) s₁) :
   WalkO q loose XP YP l.row.toRowW d [] (fun f vs => PySem.call f vs) := by
 intro w s₀ s₁ mg mb G Y fa o pm cd doc dV kV ho hd hcd hD hmg hg args vals as hpre hlay hrd hwl hlo
 obtain rfl : dV = .none := Dflts.none hD hdf
 obtain rfl : kV = .none := Dflts.noKw hD
 obtain ⟨a, vs, ns, rfl, rfl, hobj, hints, hlen⟩ := Tn hn hpre hwl
 refine enter_call (codeAny_mono (call w s₀ s₁ mg mb fa o pm cd doc a vs ns G Y ho (fd_plain hd) hcd hmg hobj hints hlen (Nh hlay) hg) fun r s' hq => ?_)
 obtain ⟨rfl, h2, h3, h4⟩ := hq
 exact ⟨.inl ⟨.bool true, .bool true, [], rfl, fun _ => rfl, .bool true, Tp l _, fun _ => ⟨List.Pairwise.nil, fun _ hm => (nomatch hm)⟩⟩, h2, h3, h4⟩
end Att
namespace L2
open PySem PySem.Spec PyProof.Rows
theorem Vt {l : PySem.W.OpenLaw} {n k : Nat} {q : Program} {loose : List Str} {XP : (Str → Option Value) → Heap → Prop} {YP : World → Heap → Prop} {d : DefRec} {K : Params → PySem.W.Frag} {CX : World → Ez} {sp : World → Sp} {x : Str}
   (hn : l.most = some n) (hn2 : n ≤ sizeLine) (hdf : d.params.defaults = []) (hr : fK k callerA)
   (hY : ∀ (w : World) (h : Heap), YP w h → (K w.params).In h)
   (F : ∀ (w : World) (mg : Str → Option Value) (fa : Addr) (h : Heap), (K w.params).In h → h.Ns mainGlobals mg → mg d.name = some (.ref fa) →
     ∃ fd : FuncData, (∀ (s : Shared) (u : Value), BindsTo s fd ⟨[u], []⟩ [(x, u)]) ∧
       ∀ base : Heap, (K w.params).In base → base.Ns mainGlobals mg → aF l.prog w (K w.params) mg base (CX w) k fa fd [x] (sp w))
   (hsp : ∀ (w : World) (H : Hp) (a : Addr) (ns : List Int), ns.length ≤ n → (∀ n ∈ ns, Builtin.Int.intBits n ≤ 1048576) → Only H → bz (K w.params) H a (ns.map V.int) → sp w [.ref a] H (fun v _ => v = .bl true) fun _ _ _ => False)
   (hCX : ∀ (w : World) (H : Hp) (s : Shared) (e : Value) (s' : Shared), CX w [] H s (fun _ _ _ => False) e s' → False) :
   PySem.W.WalkO q loose XP YP l.row.toRowW d [] (fun f vs => PySem.call f vs) := by
 refine Att.KN hn hdf fun w s₀ s₁ mg mb fa o pm cd doc a vs ns G Y ho hd hcd hmg hobj hints hlen Vu hg => ?_
 have KX := hY w _ Y
 obtain ⟨fd, hb, hF⟩ := F w mg fa _ KX G.T.g hmg
 exact Vk KX G.T.g G.T.b G.T.builtins G.T.nolimit hg hobj hints (Nat.le_trans hlen hn2) hr hF hb (fun H hO hS => hsp w H a ns hlen Vu hO hS) fun H e s' => hCX w H s₁ e s'
def nC (mg : Str → Option Value) (x : Str) (v : V) : Prop := ∃ u, mg x = some u ∧ RelV v u
theorem xL {X : Cx} {x : Str} {v : V} {pos : Pos} (hg : Gl X x) (h : nC X.mg x v) (hd : (x == ("__debug__" : Str)) = false := by decide) : PE X (.Name x pos) (tC v) := by
 obtain ⟨u, hm, r⟩ := h
 exact XR hg hm r hd
theorem lG.mod {K : PySem.W.Frag} {a : Addr} {oc : Value} {od : Option Addr} {its : Array Value} {n : Nat} {sl : Array (Option Value)} {xs : List V} (h : K.lookup a = some ⟨oc, od, .seq its n, sl⟩) (hc : oc = .type "tuple") (hz : its.size ≤ sizeLine) (hv : Vals xs its.toList) (H : Hp) : lG K H a xs :=
 .inr ⟨_, its, n, h, hc, rfl, hz, hv⟩
theorem aB.tup {K : PySem.W.Frag} {H H' : Hp} {a : Addr} {xs : List V} (e : aB H H') (h : lG K H a xs) : lG K H' a xs := by
 rcases h with (h | ⟨o, h⟩) | h
 · exact .inl (.inl (e _ _ h))
 · exact .inl (.inr ⟨o, e _ _ h⟩)
 · exact .inr h
theorem zK {H : Hp} {p : Addr} (h : H p = none) (o : HO) : aB H (upd H p o) := fun b u q => by rw [zP (zV q h)]; exact q
namespace Bt
theorem int : bootBuiltins "int" = some (.type "int") := PyProof.Rows.boot_int
theorem bool : bootBuiltins "bool" = some (.type "bool") := PyProof.Rows.boot_bool
theorem str : bootBuiltins "str" = some (.type "str") := PyProof.Rows.boot_str
theorem list : bootBuiltins "list" = some (.type "list") := PyProof.Rows.boot_list
theorem tuple : bootBuiltins "tuple" = some (.type "tuple") := PyProof.Rows.boot_tuple
theorem dict : bootBuiltins "dict" = some (.type "dict") := PyProof.Rows.boot_dict
theorem set : bootBuiltins "set" = some (.type "set") := PyProof.Rows.boot_set
theorem isinstance : bootBuiltins "isinstance" = some (.builtin "isinstance") := PyProof.Rows.boot_isinstance
theorem all : bootBuiltins "all" = some (.builtin "all") := PyProof.Rows.boot_all
theorem abs : bootBuiltins "abs" = some (.builtin "abs") := PyProof.Rows.Boot.«abs»
end Bt
end L2
namespace L2
open PySem PySem.Spec PyProof.Rows
abbrev ib (x : Int) : Nat := Builtin.Int.intBits x
theorem Vv {x : Int} (h1 : -(2 ^ 64) < x) (h2 : x < 2 ^ 64) : ib x ≤ 64 := intBits_le_64 h1 h2
theorem Vw {m : Nat} {x : Int} (h : x.natAbs < 2 ^ m) : ib x ≤ m := intBits_le_iff.mpr h
theorem Yh {α : Type} {l : List α} {i : Int} (h0 : 0 ≤ i) (h1 : i < l.length) : ∃ c, wB l i = some c ∧ l[i.toNat]? = some c := by
 have hk : i.toNat < l.length := by omega
 refine ⟨l[i.toNat], ?_, List.getElem?_eq_getElem hk⟩
 have e : i = ((i.toNat : Nat) : Int) := by omega
 have q : wB l ((i.toNat : Nat) : Int) = some l[i.toNat] := yG (List.getElem?_eq_getElem hk)
 rw [← e] at q
 exact q
theorem aB.ty {K : PySem.W.Frag} {H H' : Hp} {x : V} {t : Value} (e : aB H H') (h : au K H x t) : au K H' x t := by
 cases h with
 | non => exact .non
 | bl x => exact .bl x
 | int i => exact .int i
 | str x => exact .str x
 | flt x => exact .flt x
 | lst q => exact .lst (e _ _ q)
 | Mu q => exact .Mu (e _ _ q)
 | tup q => exact .tup (e _ _ q)
 | dK q => exact .dK (e _ _ q)
 | dT q => exact .dT (e _ _ q)
 | ins q a b c d f => exact .ins (e _ _ q) a b c d f
theorem zN {n m : Nat} (h : n ≤ m) (hm : m ≤ 16777216 := by decide) : n ≤ sizeLine := by rw [sizeLine_eq]; omega
def aR (sep : List Nat) : List (List Nat) → List Nat
 | [] => []
 | [x] => x
 | x :: y :: r => x ++ sep ++ aR sep (y :: r)
theorem pZ (sep : Str) (ys : List Str) : FZ sep ys = S (aR (cd sep) (ys.map cd)) := by
 have e : FZ sep ys = Str.join sep ys := StrLaws.glued_eq_join sep ys
 rw [e]
 clear e
 induction ys with
 | nil => rfl
 | cons y r ih =>
   cases r with
   | nil => exact (fL y).symm
   | cons z r =>
     show y ++ sep ++ Str.join sep (z :: r) = S (cd y ++ cd sep ++ aR (cd sep) ((z :: r).map cd))
     rw [ih, ← xN, ← xN, fL, fL]
structure RD (J : It) (te : TE) (σ : St) (H1 : Hp) (Q : VK) : Prop where
 ex : ∃ (n : Nat) (W : Nat → List V → Hp → Prop), n ≤ sizeLine ∧ W 0 [] H1 ∧ ∀ i ys H, i ≤ n → ys.length = i → W i ys H →
   (J.stop i H ∧ ∀ p, H p = none → Q (.ref p) (upd H p (.lst ys))) ∨ (J.go i H ∧ i < n ∧ ∀ x H', J.Qg i H x H' → te (some x :: σ) H' fun v Df => W (i + 1) (ys ++ [v]) Df)
def Qp (wi : TI) (te : TE) : TE := fun σ H Q => wi σ H fun J H1 => RD J te σ H1 Q
structure Yi (J : It) (g : TG) (tb : TS) (D : Ends) (σ : St) (H1 : Hp) : Prop where
 ex : ∃ W : Nat → Nat → St → Hp → Prop, (∃ m, W 0 m σ H1) ∧ ∀ i m σ H, W i m σ H →
   (J.stop i H ∧ D.nx σ H) ∨ (J.go i H ∧ ∃ N : St → Hp → Prop, (∀ σ' H', N σ' H' → ∃ m', m' < m ∧ W (i + 1) m' σ' H') ∧ ∀ x H', J.Qg i H x H' → g x σ H' fun σ2 H2 => tb { D with nx := N, ct := N, bk := D.nx } σ2 H2)
def ad4 (wi : TI) (g : TG) (tb : TS) : TS := fun D σ H => wi σ H fun J H1 => Yi J g tb D σ H1
structure apj (c : TT) (tb : TS) (D : Ends) (σ : St) (H : Hp) : Prop where
 ex : aaC c tb D σ H
theorem PI.weak {X : Cx} {tg iter : Expr} {wi : TI} (h : PI X tg iter wi) {pins : List (Addr × Obj)} {s : Shared} {σ : St} {H : Hp} {R R' : It → Hp → Prop} (I : Inv X pins σ H s) (hw : wi σ H R) (hR : ∀ J H1, R J H1 → R' J H1) :
   wpAny (model X.prog X.w) X.A (eval iter X.env) (fun v s1 => wpAny (model X.prog X.w) X.A (pyIter v) (PIE X pins σ tg R') X.xe s1) X.xe s := by
 refine eY (h pins s σ H R I hw) fun v s1 h1 => eY h1 fun itv s2 ⟨it, fp, tn, J, H', e, I', T, st, f, r⟩ => ?_
 exact ⟨it, fp, tn, J, H', e, I', T, st, f, hR J H' r⟩
section
variable {X : Cx} {scope : Scope} {x : Str} {M : List Str} {elt iter : Expr} {px pos : Pos} {te : TE} {wi : TI}
theorem yf {tg : Expr} {wi wi' : TI} (h : PI X tg iter wi) (hw : ∀ σ H R, wi' σ H R → ∃ R0, wi σ H R0 ∧ ∀ J H1, R0 J H1 → R J H1) : PI X tg iter wi' := by
 intro pins s σ H R I q
 obtain ⟨R0, q0, hR⟩ := hw σ H R q
 exact h.weak I q0 hR
theorem xU (K : cV X scope x M) (hc : X.calm = true) (hi : PI X (.Name x px) iter wi) (he : ∀ (C : Addr) (s₂ : Shared) (H₂ : Hp) (fp : List Addr), PE (iZ X scope C x M s₂ H₂ fp) elt te)
   (hs : ∀ x, foldedSetIterable iter X.env x = pure x := by intro _; rfl) : PE X (.ListComp elt [⟨.Name x px, iter, [], 0⟩] scope pos) (Qp wi te) := by
 intro pins s σ H Q I h
 have q := Yd (pos := pos) K hc (wi := fun σ0 H0 R0 => ∃ R, wi σ0 H0 R ∧ ∀ J H1, R J H1 → R0 J H1) (yf hi fun σ H R ⟨R1, a, b⟩ => ⟨R1, a, b⟩) he hs pins s σ H Q I
 exact q ⟨_, h, fun J H1 r => r.ex⟩
theorem Ga {i : Nat} {y : Str} {spos py : Pos} (hN : X.N.Nodup) (hy : X.N[i]? = some y) (hl : Loc X.env.scope y) (K : cV X scope x M) (hc : X.calm = true) (hi : PI X (.Name x px) iter wi) (he : ∀ (C : Addr) (s₂ : Shared) (H₂ : Hp) (fp : List Addr), PE (iZ X scope C x M s₂ H₂ fp) elt te)
   (hsw : swapsWith (.ListComp elt [⟨.Name x px, iter, [], 0⟩] scope pos) (some (.Name y py)) spos.line X.env = pure true := by rfl)
   (hs : ∀ x, foldedSetIterable iter X.env x = pure x := by intro _; rfl) (hf : X.fn y = true ∨ X.env.scope.names.lookup y = some .local := by first | exact .inl rfl | exact .inr rfl | assumption) :
   PS X (.Assign [.Name y py] (.ListComp elt [⟨.Name x px, iter, [], 0⟩] scope pos) spos) (S9 (Qp wi te) (gf i)) := by
 intro pins s σ H D I h
 have q := Ye (pos := pos) (spos := spos) hN hy hl K hc (wi := fun σ0 H0 R0 => ∃ R, wi σ0 H0 R ∧ ∀ J H1, R J H1 → R0 J H1) (yf hi fun σ H R ⟨R1, a, b⟩ => ⟨R1, a, b⟩) he hsw hs hf pins s σ H D I
 exact q ⟨_, h, fun J H1 r => r.ex⟩
theorem KQ {tg : Expr} {body : List Stmt} {g : TG} {tb : TS} (hp : PassesOwn (model X.prog X.w) X.A X.env X.xe) (hc : X.calm = true) (hi : PI X tg iter wi) (hg : PG X tg g) (hb : jG X body tb)
   (hs : ∀ x, foldedSetIterable iter X.env x = pure x := by intro _; rfl) : PS X (.For tg iter body [] pos) (ad4 wi g tb) := by
 intro pins s σ H D I h
 have q := aaE (pos := pos) hp hc (wi := fun σ0 H0 R0 => ∃ R, wi σ0 H0 R ∧ ∀ J H1, R J H1 → R0 J H1) (yf hi fun σ H R ⟨R1, a, b⟩ => ⟨R1, a, b⟩) hg hb hs pins s σ H D I
 exact q ⟨_, h, fun J H1 r => r.ex⟩
end
theorem p6 {x : Str} {te : TE} {σ : St} {H : Hp} {Q : VK} (hz : x.length ≤ sizeLine) (W : Nat → List V → Hp → Prop) (h0 : W 0 [] H)
   (hs : ∀ i c ys H, (cd x)[i]? = some c → ys.length = i → W i ys H → te (some (.str (S [c])) :: σ) H fun v H' => W (i + 1) (ys ++ [v]) H')
   (hd : ∀ ys H, ys.length = x.length → W x.length ys H → ∀ p, H p = none → Q (.ref p) (upd H p (.lst ys))) : RD (Xy x) te σ H Q := ⟨Vq hz W h0 hs hd⟩
theorem Ni {lo : Int} {n : Nat} {te : TE} {σ : St} {H : Hp} {Q : VK} (hz : n ≤ sizeLine) (W : Nat → List V → Hp → Prop) (h0 : W 0 [] H)
   (hs : ∀ i ys H, i < n → ys.length = i → W i ys H → te (some (.int (lo + i)) :: σ) H fun v H' => W (i + 1) (ys ++ [v]) H')
   (hd : ∀ ys H, ys.length = n → W n ys H → ∀ p, H p = none → Q (.ref p) (upd H p (.lst ys))) : RD (U6 lo n) te σ H Q := ⟨Qo hz W h0 hs hd⟩
theorem xR {K : PySem.W.Frag} {a : Addr} {xs : List V} {te : TE} {σ : St} {H : Hp} {Q : VK} (hz : xs.length ≤ sizeLine) (W : Nat → List V → Hp → Prop) (h0 : W 0 [] H) (hq : ∀ i ys H, W i ys H → bz K H a xs)
   (hs : ∀ i x ys H, xs[i]? = some x → ys.length = i → W i ys H → te (some x :: σ) H fun v H' => W (i + 1) (ys ++ [v]) H')
   (hd : ∀ ys H, ys.length = xs.length → W xs.length ys H → ∀ p, H p = none → Q (.ref p) (upd H p (.lst ys))) : RD (Itl K a) te σ H Q := ⟨Tq hz W h0 hq hs hd⟩
theorem Qq {lo : Int} {n : Nat} {g : TG} {tb : TS} {D : Ends} {σ : St} {H : Hp} (Pv : Nat → St → Hp → Prop) (h0 : Pv 0 σ H)
   (hs : ∀ i σ H, i < n → Pv i σ H → g (.int (lo + i)) σ H fun σ2 H2 => tb { D with nx := Pv (i + 1), ct := Pv (i + 1), bk := D.nx } σ2 H2) (hd : ∀ σ H, Pv n σ H → D.nx σ H) : Yi (U6 lo n) g tb D σ H := ⟨Te Pv h0 hs hd⟩
theorem Vx {x : Str} {g : TG} {tb : TS} {D : Ends} {σ : St} {H : Hp} (Pv : Nat → St → Hp → Prop) (h0 : Pv 0 σ H)
   (hs : ∀ i c σ H, (cd x)[i]? = some c → Pv i σ H → g (.str (S [c])) σ H fun σ2 H2 => tb { D with nx := Pv (i + 1), ct := Pv (i + 1), bk := D.nx } σ2 H2) (hd : ∀ σ H, Pv x.length σ H → D.nx σ H) : Yi (Xy x) g tb D σ H := ⟨Yg Pv h0 hs hd⟩
theorem qX {α : Type} {f : α → V} {l : List α} {i : Nat} {x : V} (h : (l.map f)[i]? = some x) : ∃ a, l[i]? = some a ∧ x = f a := by
 rw [List.getElem?_map] at h
 cases e : l[i]? with
 | none => rw [e] at h; cases h
 | some a => rw [e] at h; exact ⟨a, rfl, (Option.some.inj h).symm⟩
theorem dM {K : PySem.W.Frag} {a b : String} {r : Bool} (h : (if (Value.type a == Value.type b) = true then some true else if PySem.W.kitMeta b = true then (fastBuiltinMro a).map (·.contains (Value.type b)) else none) = some r) : PySem.W.kitOne K (.type a) (.type b) = some r := h
end L2
namespace L2
open PySem PySem.Spec PyProof.Rows PySem.Calls
structure XUn (outer : List Env) (H H' : Hp) (h B h1 : Heap) : Prop where
 Vy : ∀ b o, h.get? b = some o → H b = none → b ∉ frs outer → B.get? b = some o
 Qs : ∀ b o, h.get? b = some o → b ∉ frs outer → ∃ o', B.get? b = some o'
 slot : ∀ b o, h.get? b = some o → H b = none → b ∈ frs outer → ∃ sl, h1.get? b = some { o with slots := sl }
 free : ∀ b o, h.get? b = some o → H b = none → H' b = none
 tups : ∀ b xs, H b = some (.tup xs) → H' b = some (.tup xs)
 pX : ∀ b o u, H b = some (.Mu o u) → H' b = some (.Mu o u)
 qQ : ∀ b ps, H b = some (.XH ps) → ∃ more, H' b = some (.XH (ps ++ more))
theorem XUn.step {outer : List Env} {H H' : Hp} {h B h1 h2 base : Heap} (x : XUn outer H H' h B h1) (fr : h1.FunFrames base outer) (up : h1.UpToSlots h2) : XUn outer H H' h B h2 :=
 ⟨x.Vy, x.Qs, fun b o e n hb => by
   obtain ⟨sl, q⟩ := x.slot b o e n hb
   obtain ⟨_, o', ho', hd'⟩ := fr.mem hb
   rw [q] at ho'; cases ho'
   obtain ⟨sl', q'⟩ := up b _ q hd'
   exact ⟨sl', q'⟩, x.free, x.tups, x.pX, x.qQ⟩
theorem XUn.un {outer : List Env} {H H' : Hp} {h B h1 : Heap} (x : XUn outer H H' h B h1) (st : B.StaysIn h1) (fr : h1.FunFrames B outer) : Un (frs outer) [] H H' h h1 :=
 ⟨fun b o e n hb _ => st b o (x.Vy b o e n hb), fun b o e n hb _ => x.slot b o e n hb, fun b o e n _ => x.free b o e n, fun b o e _ => by
   by_cases hb : b ∈ frs outer
   · obtain ⟨_, o', ho', _⟩ := fr.mem hb
     exact ⟨o', ho'⟩
   · obtain ⟨o', q⟩ := x.Qs b o e hb
     exact ⟨o', st b o' q⟩, x.tups, x.pX, x.qQ⟩
def vz (P : Program) (w : World) : Ez := fun outer H s E e s' =>
 ∃ (ea t : Addr) (cls : Value) (H' : Hp) (B : Heap), e = .ref ea ∧ Heap.FlyingW B outer ea cls (.ref t) s'.heap ∧ s'.os = s.os ∧ AllBare s'.gens ∧ Dd P w H' B ∧ XUn outer H H' s.heap B s'.heap ∧ E cls none H'
section
variable {P : Program} {w : World} {K : PySem.W.Frag} {mg : Str → Option Value} {base : Heap} {N : List Str} {qual : Str} {scope : Scope} {f : Addr} {cdv : Value} {A : Around} {outer : List Env} {s : Shared} {H : Hp} {E : XK}
theorem Yj {pins : List (Addr × Obj)} {σ : St} {H1 : Hp} {s1 : Shared} {h' : Heap} {e : Addr} {cls : Value} {vs : List Value} (I : Inv (jD (vz P w) P w K mg base N qual scope f cdv A outer s H E) pins σ H1 s1)
   (hx : Heap.MadeExcOf s1.heap h' e cls vs) (hE : E cls none H1) : (jD (vz P w) P w K mg base N qual scope f cdv A outer s H E).xe (.ref e) { s1 with heap := h' } := by
 have hst := I.stack
 have hin : ∀ env ∈ (jD (vz P w) P w K mg base N qual scope f cdv A outer s H E).stack, ∀ b, env.frame = some b → b ∈ frs (jD (vz P w) P w K mg base N qual scope f cdv A outer s H E).stack := fun env he b hb => List.mem_filterMap.mpr ⟨env, he, hb⟩
 generalize hB : PySem.W.hideAll s1.heap (frs (jD (vz P w) P w K mg base N qual scope f cdv A outer s H E).stack) = B
 have stB : B.StaysIn s1.heap := fun b o q => by rw [← hB] at q; exact PySem.W.of_hideAll _ q
 have aaP : ∀ b o, s1.heap.get? b = some o → b ∉ frs (jD (vz P w) P w K mg base N qual scope f cdv A outer s H E).stack → B.get? b = some o := fun b o q n => by rw [← hB]; exact PySem.W.hideAll_get _ q n
 have frB : s1.heap.FunFrames B (jD (vz P w) P w K mg base N qual scope f cdv A outer s H E).stack := by rw [← hB]; exact PySem.W.funFrames_hide hst hin
 have noL : ∀ b o, s.heap.get? b = some o → b ∉ frs outer → b ∉ frs (jD (vz P w) P w K mg base N qual scope f cdv A outer s H E).stack := fun b o q n z => by
   rcases List.mem_cons.mp (I.sZ b z) with z | z
   · have : b < s.heap.objs.size := Heap.lt_size q
     have a := I.ok.above
     rw [← z] at a
     exact absurd (Nat.lt_of_lt_of_le this a) (Nat.lt_irrefl _)
   · exact n z
 show wpAny (model P w) _ (leaving (envOfC qual scope s.heap.objs.size f cdv) (.ref e)) _ _ _
 refine wpAny_leaves_madeW (base := B) (h := s1.heap) (outer := outer) I.ok.frames rfl stB frB hx fun h2 t fl tup tn up => ?_
 refine ⟨e, t, cls, H1, B, rfl, fl, I.os, I.bare, fun a o q => (I.hok a o q).stay (fun b u hb z => aaP b u z fun m => ?_) (fun _ z => z) (fun _ _ z => z), ⟨fun b o q n hb => ?_, fun b o q hb => ?_, fun b o q n hb => ?_, fun b o q n => I.base.free b o q n (fun z => nomatch z), I.base.tups, I.base.pX, I.base.qQ⟩, hE⟩
 · have z := I.Ku b m
   rcases hb with r | r
   · rw [r, q] at z; cases z
   · rw [r] at z; cases z
 · exact aaP b o (I.base.keep b o q n hb (fun z => nomatch z)) (noL b o q hb)
 · obtain ⟨o', q'⟩ := I.base.there b o q (fun z => nomatch z)
   exact ⟨o', aaP b o' q' (noL b o q hb)⟩
 · obtain ⟨sl, q'⟩ := I.base.slot b o q n hb (fun z => nomatch z)
   have q2 := hx.keeps b _ q'
   obtain ⟨_, o2, ho2, hd2⟩ := I.wz.mem hb
   rw [q'] at ho2; cases ho2
   obtain ⟨sl', z⟩ := up b _ q2 hd2
   exact ⟨sl', z⟩
theorem yg : Passes (vz P w) (jD (vz P w) P w K mg base N qual scope f cdv A outer s H E) E := by
 intro pins σ H1 s1 e s' I h
 obtain ⟨ea, t, cls, H', B, rfl, fl, os, bare, hok, x, hE⟩ := h
 show wpAny (model P w) _ (leaving (envOfC qual scope s.heap.objs.size f cdv) (.ref ea)) _ _ _
 have noL : ∀ b o, s.heap.get? b = some o → b ∉ frs outer → b ∉ frs (jD (vz P w) P w K mg base N qual scope f cdv A outer s H E).stack := fun b o q n z => by
   rcases List.mem_cons.mp (I.sZ b z) with z | z
   · have : b < s.heap.objs.size := Heap.lt_size q
     have a := I.ok.above
     rw [← z] at a
     exact absurd (Nat.lt_of_lt_of_le this a) (Nat.lt_irrefl _)
   · exact n z
 refine wpAny_leaves_onW (outer := outer) I.ok.frames rfl fl fun h2 fl2 up => ?_
 have x2 := x.step fl.2.2.1 up
 refine ⟨ea, t, cls, H', B, rfl, fl2, os.trans I.os, bare, hok, ⟨fun b o q n hb => ?_, fun b o q hb => ?_, fun b o q n hb => ?_, fun b o q n => ?_, fun b xs q => x.tups b xs (I.base.tups b xs q), fun b o u q => x.pX b o u (I.base.pX b o u q), fun b ps q => ?_⟩, hE⟩
 · exact x.Vy b o (I.base.keep b o q n hb (fun z => nomatch z)) (I.base.free b o q n (fun z => nomatch z)) (noL b o q hb)
 · obtain ⟨o', q'⟩ := I.base.there b o q (fun z => nomatch z)
   exact x.Qs b o' q' (noL b o q hb)
 · obtain ⟨sl, q'⟩ := I.base.slot b o q n hb (fun z => nomatch z)
   obtain ⟨sl', q2⟩ := x2.slot b _ q' (I.base.free b o q n (fun z => nomatch z)) (by
     obtain ⟨env, he, hf⟩ := List.mem_filterMap.mp hb
     exact List.mem_filterMap.mpr ⟨env, List.mem_cons_of_mem _ he, hf⟩)
   exact ⟨sl', q2⟩
 · obtain ⟨o', q'⟩ := I.base.there b o q (fun z => nomatch z)
   exact x.free b o' q' (I.base.free b o q n (fun z => nomatch z))
 · obtain ⟨m1, e1⟩ := I.base.qQ b ps q
   obtain ⟨m2, e2⟩ := x.qQ b _ e1
   exact ⟨m1 ++ m2, by rw [e2, Array.append_assoc]⟩
end
section
variable {P : Program} {w : World} {K : PySem.W.Frag} {mg : Str → Option Value} {base : Heap}
theorem gq.ZG {x qual : Str} {st : Stmt} {f : Addr} {fd : FuncData} {N ps : List Str} {k : Nat} {sp : Sp} (F : gq K x qual st f fd) (S : aq N ps (aa st)) (len : ∀ vs H Q E, sp vs H Q E → vs.length = ps.length)
   (hbody : ∀ (cdv : Value) (A : Around) (outer : List Env) (s : Shared) (H : Hp) (vs : List V) (Q : VK) (E : XK), fK k (A.deeper (envOfC qual (aa st) s.heap.objs.size f cdv)) → sp vs H Q E →
     ∃ t, jG (jD (vz P w) P w K mg base N qual (aa st) f cdv A outer s H E) (aj st) t ∧ t { nx := fun _ H' => Q .non H', rt := Q } (start N vs) H) : aF P w K mg base (vz P w) (k + 1) f fd ps sp := by
 obtain ⟨oc, od, kV, doc, pm, an, cdv, ct, osl, rfl, lk, hcd⟩ := F.ex
 exact Rz lk hcd S len fun A outer s H vs Q E hr hsp => hbody cdv A outer s H vs Q E hr hsp
end
end L2
namespace L2
open PySem PySem.Spec PyProof.Rows PySem.Calls PySem.W PySem.Builtin PySem.Builtin.ObjectAttr PySem.Builtin.Getset_descriptor
section
variable {prog : Program} {w : World} {A : Around} {E : Value → Shared → Prop} {s : Shared} {K : PySem.W.Frag} {x D : Addr}
def ClsAt (h : Heap) (x D : Addr) : Prop := ∃ o, h.get? x = some o ∧ o.cls = .ref D
theorem ClsAt.type {M : Model} {h : Heap} (p : ClsAt h x D) : Looks M h (typeOf (.ref x)) (.ref D) := by
 obtain ⟨o, e, c⟩ := p
 exact c ▸ (Looks.ld e).andThen .now
theorem Qt {M : Model} {h : Heap} {name : Str} {a g : Value} (X : K.In h) (hf : findIn K (.ref D) name = some (some a)) (hg : specialIn K a "__get__" = some (some g)) (ht : takesIn K a = some true) : Looks M h (find (.ref x) (.ref D) name) (.bind g a) := by
 have l1 := looks_findIn (M := M) X hf
 have l2 : Looks M h (getOf (some a)) (some g) := looks_specialIn X hg
 have l3 := looks_takesIn (M := M) X ht
 refine l1.andThen (l2.andThen ?_)
 have l4 : Looks M h (dataDescriptor? (some a) (some g)) (some (g, a)) := l3.andThen .now
 exact l4.andThen (Looks.tag .now)
structure Gb (K : PySem.W.Frag) (D : Addr) : Prop where
 ga : findIn K (.ref D) "__getattribute__" = some (some (.builtin "BaseException.__getattribute__"))
 gk : findIn K (.ref D) "__getattr__" = some none
 cl : (clsIn K D).isSome = true
 ha : findIn K (.ref D) "__class__" = some (some (.builtin "object.__class__"))
 hn : specialIn K (.builtin "object.__class__") "__get__" = some (some (.builtin "getset_descriptor.__get__"))
 tk : takesIn K (.builtin "object.__class__") = some true
 mo : mroIn K D (.type "object") = some true
 mb : mroIn K D (.type "BaseException") = some true
theorem class_get {R : Result → Shared → Prop} (c : Gb K D) (X : K.In s.heap) (p : ClsAt s.heap x D) (q : R (.ok (.ret (.ref D))) s) :
   codeAny (model prog w) A (.call (.builtin "getset_descriptor.__get__") ⟨[.builtin "object.__class__", .ref x, .ref D], []⟩) R s := by
 obtain ⟨hh, g, d, t, os⟩ := s
 obtain ⟨o, eo, ec⟩ := id p
 have t0 := p.type (M := model prog w)
 have l1 := looks_mroIn (M := model prog w) X c.mo
 have apk := KF.args_gs (Value.builtin "object.__class__") (Value.ref x) (Value.ref D)
 refine codeAny_call_builtin KF.slot_gs.plain KF.entry_gs
   (KF.slot_gs.check _ _ _ _ _ _ _ _ KF.type_class apk ?_)
 unfold Builtin.«getset_descriptor.__get__»
   descrGet
 rw [dga_obj]; refine wpAny_bind (wpAny_pure ?_)
 unfold descrGetter descrCheckInstance
   descrNameAndClass isInstance
 simp only [KF.owner_class]; (repeat lk)
 refine ⟨Code.quiet_builtin _
   (by symm), codeAny_builtin KF.entry_class ?_⟩
 unfold Builtin.«object.__class__»
   shownTypeOf
 (repeat lk); exact q
theorem Qu {tk : Tok} {R : Result → Shared → Prop} (c : Gb K D) (X : K.In s.heap) (p : ClsAt s.heap x D) (q : R (.ok (.ret (.ref D))) s) :
   codeAny (model prog w) A (.call (.builtin "BaseException.__getattribute__") ⟨[.ref x, .str "__class__" tk], []⟩) R s := by
 obtain ⟨hh, g, d, t, os⟩ := s
 obtain ⟨o, eo, ec⟩ := id p
 have t0 := p.type (M := model prog w)
 have lb := looks_mroIn (M := model prog w) X c.mb
 have f0 := Qt (x := x) (M := model prog w) X c.ha c.hn c.tk
 have hk : builtinKind "BaseException.__getattribute__" = some .slot := by symm
 have hsplit : splitId "BaseException.__getattribute__" = some ("BaseException", "__getattribute__") := by symm
 have ha := F.args_bexc_ga (.ref x) (.str "__class__" tk)
 refine codeAny_call_builtin F.excAttr_ValueError.ga.plain F.entry_bexc_ga ?_
 simp only [checkBuiltinCall, hk, hsplit]
 unfold isInstance
 refine wpAny_bind ?_
 (repeat (first | (with_reducible refine wpAny_call (class_get c X p ?_)) | lk))
 exact q
theorem Vz {Q : Option Value → Shared → Prop} (c : Gb K D) (X : K.In s.heap) (p : ClsAt s.heap x D) (q : Q (some (.ref D)) { s with toks := s.toks + 1 }) : wpAny (model prog w) A (getAttr? (.ref x) "__class__") Q E s := by
 obtain ⟨hh, g, d, t, os⟩ := s
 obtain ⟨o, eo, ec⟩ := id p
 have t0 := p.type (M := model prog w)
 have t1 := looks_findIn (M := model prog w) X c.ga
 have f1 := looks_findIn (M := model prog w) X c.gk
 have f3 := F.excAttr_ValueError.ga.bind (.ref x)
 unfold getAttr? getAttrBy? getAttrBy
 refine wpAny_bind (wpAny_mkText (wpAny_bind (wpAny_attempt (wpAny_holding (wpAny_bind (t0.at (wpAny_bind (t1.at ?_))))))))
 show wpAny _ _ (getAttrByItsOwn _ _ _ _ _ _) _ _ _
 unfold getAttrByItsOwn hookBefore
 refine wpAny_bind (f1.at (wpAny_bind (wpAny_attempt (wpAny_holding ?_))))
 show wpAny _ _ (boundAndCalled _ _ _) _ _ _
 unfold boundAndCalled
 rw [f3]
 refine wpAny_bind (wpAny_pure (wpAny_call ?_))
 refine Qu c (s := ⟨hh, g, d, t + 1, os⟩) X p ?_
 exact wpAny_pure (wpAny_pure q)
theorem Yk (c : Gb K D) : KitX K (.ref x) (.ref D) (fun h => ClsAt h x D) where
 ty := fun _ _ _ p => p.type
 it := fun _ _ X _ => by
   obtain ⟨cd, e⟩ := Option.isSome_iff_exists.mp c.cl
   unfold clsIn at e
   split at e
   · rename_i c' d' cd' sl' ho
     intro A' Q' E' s' k q
     unfold isType loadHead
     exact wpAny_bind (wpAny_loadPart (k _ _ (X _ _ ho)) (wpAny_pure q))
   · cases e
 ne := fun h tp dd its n sl X htp => by
   obtain ⟨cd, e⟩ := Option.isSome_iff_exists.mp c.cl
   refine Bool.eq_false_iff.mpr fun q => ?_
   have z : D = tp := Value.ref.inj (beq_iff_eq.mp q)
   subst z
   unfold clsIn at e
   split at e
   · rename_i c' d' cd' sl' ho
     have z := (X _ _ ho).symm.trans htp
     cases z
   · cases e
 ca := fun X p k => Vz c X p k
end
def ad6 (a D : Addr) : HO := .ext fun h => ClsAt h a D
inductive Uw (K : PySem.W.Frag) (H : Hp) : V → Value → Prop where
 | old {x : V} {t : Value} (h : au K H x t) : Uw K H x t
 | exc {a D : Addr} (h : H a = some (ad6 a D)) (c : Gb K D) : Uw K H (.ref a) (.ref D)
 | tpl {a : Addr} {xs : List V} (h : lG K H a xs) : Uw K H (.ref a) (.type "tuple")
def ad7 : V → Value
 | .ref a => .ref a
 | .ty n => .type n
 | _ => .none
def ZJ : V → Bool
 | .ref _ => true
 | .ty _ => true
 | _ => false
section
variable {X : Cx} {pins : List (Addr × Obj)} {σ : St} {H : Hp} {s : Shared} {A : Around} {E : Value → Shared → Prop} {Q : Value → Shared → Prop} {c : Value} {b : Bool}
theorem aaQ {x : V} {u t : Value} (I : Inv X pins σ H s) (rx : RelV x u) (ty : Uw X.K H x t) : (∃ P : Heap → Prop, KitX X.K u t P ∧ P s.heap) ∧ u ≠ .builtin "__main__.__loader__#opaque" := by
 cases ty with
 | @tpl a xs h =>
   cases (show u = Value.ref a from rx)
   obtain ⟨its, r, pl, hz⟩ := I.tuple h
   obtain ⟨o, h1, h2, _⟩ := pl
   exact ⟨⟨_, kitx_tuple, ⟨o, h1, h2⟩⟩, fun z => nomatch z⟩
 | old ty =>
   cases ty with
   | non => cases (show u = Value.none from rx); exact ⟨⟨_, kitx_none, True.intro⟩, fun z => nomatch z⟩
   | bl y => cases (show u = Value.bool y from rx); exact ⟨⟨_, kitx_bool, True.intro⟩, fun z => nomatch z⟩
   | int i => obtain ⟨t, q⟩ := (show ∃ t, u = Value.int i t from rx); cases q; exact ⟨⟨_, kitx_int, True.intro⟩, fun z => nomatch z⟩
   | str y => obtain ⟨t, q⟩ := (show ∃ t, u = Value.str y t from rx); cases q; exact ⟨⟨_, kitx_str, True.intro⟩, fun z => nomatch z⟩
   | flt y => obtain ⟨t, q⟩ := (show ∃ t, u = Value.float y t from rx); cases q; exact ⟨⟨_, kitx_float, True.intro⟩, fun z => nomatch z⟩
   | @lst a xs ea =>
     cases (show u = Value.ref a from rx)
     obtain ⟨_, _, n, _, h1⟩ := (show gr X.prog X.w H s.heap a (.lst xs) from I.hok a _ ea)
     exact ⟨⟨_, kitx_list, ⟨_, h1, rfl⟩⟩, fun z => nomatch z⟩
   | @Mu a ob xs ea =>
     cases (show u = Value.ref a from rx)
     obtain ⟨_, _, _, n, _, h1⟩ := (show gr X.prog X.w H s.heap a (.Mu ob (.lst xs)) from I.hok a _ ea)
     exact ⟨⟨_, kitx_list, ⟨_, h1, rfl⟩⟩, fun z => nomatch z⟩
   | @tup a xs ea =>
     cases (show u = Value.ref a from rx)
     obtain ⟨_, _, _, p⟩ := (show gr X.prog X.w H s.heap a (.tup xs) from I.hok a _ ea)
     obtain ⟨o, h1, h2, _⟩ := p
     exact ⟨⟨_, kitx_tuple, ⟨o, h1, h2⟩⟩, fun z => nomatch z⟩
   | @dK a kvs ea =>
     cases (show u = Value.ref a from rx)
     obtain ⟨_, _, vs, _, p⟩ := (show gr X.prog X.w H s.heap a (.dK kvs) from I.hok a _ ea)
     obtain ⟨o, es, ep, h1, h2, _⟩ := p
     exact ⟨⟨_, kitx_dict, ⟨o, h1, h2.1⟩⟩, fun z => nomatch z⟩
   | @dT a kvs ea =>
     cases (show u = Value.ref a from rx)
     obtain ⟨_, _, xs, _, o, es, ep, h1, h2, _⟩ := (show gr X.prog X.w H s.heap a (.dT kvs) from I.hok a _ ea)
     exact ⟨⟨_, kitx_dict, ⟨o, h1, h2.1⟩⟩, fun z => nomatch z⟩
   | @ins a C dx fs ea cl ha hn htk hm =>
     cases (show u = Value.ref a from rx)
     obtain ⟨mA, O, _⟩ := Ey I.hok ea
     obtain ⟨od, J, _⟩ := O.look
     exact ⟨⟨_, kitx_own (cl.get _) cl.hd ha hn htk hm, J⟩, fun z => nomatch z⟩
 | @exc a D h c =>
   cases (show u = Value.ref a from rx)
   obtain ⟨p, _⟩ := (show gr X.prog X.w H s.heap a (ad6 a D) from I.hok a _ h)
   exact ⟨⟨_, Yk c, p⟩, fun z => nomatch z⟩
theorem VB {x : V} {u : Value} (h : ZJ x = true) (r : RelV x u) : u = ad7 x := by
 cases x with
 | ref a => exact r
 | ty n => exact r
 | _ => cases h
theorem yO : bL X (.builtin "isinstance") (fun xs H Q => ∃ x y t b, xs = [x, y] ∧ ZJ y = true ∧ Uw X.K H x t ∧ PySem.W.kitOne X.K t (ad7 y) = some b ∧ Q (.bl b) H) := by
 intro pins s σ H xs us Q I r h
 obtain ⟨x, y, t, b, rfl, hc, ty, e, q⟩ := h
 obtain ⟨u, w', rfl, rx, ry⟩ := vals2 r
 obtain rfl := VB hc ry
 obtain ⟨⟨P, Z, p⟩, nb⟩ := aaQ I rx ty
 exact kia_one Z I.Ew p e nb fun tk => ⟨.bl b, H, I.tok _, rfl, q⟩
end
end L2
namespace L2
open PySem PySem.Spec PyProof.Rows PySem.Calls PySem.W
theorem Yl {K : PySem.W.Frag} {h : Heap} {C : Addr} {bmB : List Value} {newId : String} (X : K.In h) (q : excIn K C bmB newId = true) :
   ∃ bm N nm q bs hdct sn sub ab col dd k0 k1 k2 k3 k5 mN, h.get? C = some (excClassObj nm q C N bs bm hdct sn sub ab col dd k0 k1 k2 k3 k5 newId) ∧ h.Ns N mN ∧ mN "__init__" = none ∧ OwnTail h bmB bm := by
 unfold excIn at q
 split at q
 · rename_i dd cl sl ho
   split at q
   · rename_i C' bm k0 k1 k2 k3 n k5 hm hs
     simp only [Bool.and_eq_true, Bool.not_eq_true', beq_iff_eq] at q
     obtain ⟨⟨⟨⟨⟨e1, e2⟩, e3⟩, e4⟩, e5⟩, e6⟩ := q
     subst e1 e2
     obtain ⟨c1, c2, c3, c4, c5, c6, c7, c8, c9, c10, c11⟩ := cl
     dsimp only at hm e3 e5 e6; subst hm e3
     have es : sl = #[k0, k1, k2, k3, some (.builtin n), k5] := by
       cases sl with | mk l => (simp only at hs; rw [hs])
     subst es
     refine ⟨bm, c4, c1, c5, c2, c6, c7, c8, c9, c10, dd, k0, k1, k2, k3, k5, h.nsMap c4, X _ _ ho, ?_, ?_, tail_of_in X e4⟩
     · exact .of_isNs (isNs_of_in X e5)
     · exact nsMap_none_of_in X e5 e6
   · cases q
 · cases q
abbrev Gd : List Value := [.type "ValueError", .type "Exception", .type "BaseException", .type "object"]
section
variable {P : Program} {w : World} {K : PySem.W.Frag} {mg : Str → Option Value} {base : Heap} {N : List Str} {qual : Str} {scope : Scope} {f : Addr} {cdv : Value} {A : Around} {outer : List Env} {s : Shared} {H : Hp} {E : XK}
def aaR (E : XK) (C : Addr) (t : TA) : TS := fun _ σ H => t σ H fun vs H1 => vs.length ≤ sizeLine ∧ E (.ref C) none H1
theorem xM {x : Str} {C : Addr} {np cpos pos : Pos} {e₀ : Expr} {rest : List Expr} {t : TA} (hm : mg x = some (.ref C)) (hq : excIn K C Gd "ValueError.__new__" = true)
   (ha : PA (jD (vz P w) P w K mg base N qual scope f cdv A outer s H E) (e₀ :: rest) t) (hg : Gl (jD (vz P w) P w K mg base N qual scope f cdv A outer s H E) x)
   (he : starEach (e₀ :: rest) (envOfC qual scope s.heap.objs.size f cdv) = (false, eval e₀ (envOfC qual scope s.heap.objs.size f cdv)) :: starEach rest (envOfC qual scope s.heap.objs.size f cdv) := by rfl)
   (hpl : (backTo cpos (starEach rest (envOfC qual scope s.heap.objs.size f cdv))).any (·.1) = false := by rfl) (hd : (x == ("__debug__" : Str)) = false := by decide) :
   PS (jD (vz P w) P w K mg base N qual scope f cdv A outer s H E) (.Raise (some (.Call (.Name x np) (e₀ :: rest) [] cpos)) none pos) (aaR E C t) := by
 intro pins s1 σ H1 D I h
 obtain ⟨bm, Nn, nm, qn, bs, hdct, sn, sub, ab, col, dd, k0, k1, k2, k3, k5, mN, hC, hN, hni, TL⟩ := Yl I.ok.mod.Xw hq
 have hand : (jD (vz P w) P w K mg base N qual scope f cdv A outer s H E).A.handled = none := I.ok.hd rfl
 refine wpAny_Raise_call_subT (C := C) (nm := nm) (q := qn) (N := Nn) (bs := bs) (bm := bm) (hdct := hdct) (sn := sn) (sub := sub) (ab := ab) (col := col) (dd := dd) (k0 := k0) (k1 := k1) (k2 := k2) (k3 := k3) (k5 := k5)
   F.excBase_ValueError (mN := mN) (TL.hasType F.excBase_ValueError.hasBase) hand ?_ hni (mG I hg hm ⟨rfl, ?_⟩ hd)
 · show (backTo cpos (starEach (e₀ :: rest) (envOfC qual scope s.heap.objs.size f cdv))).any (·.1) = false
   rw [he]; show (false || (backTo cpos (starEach rest (envOfC qual scope s.heap.objs.size f cdv))).any (·.1)) = false
   rw [hpl]; rfl
 · have hA := ha cpos pins s1 σ H1 _ I h
   show wpAny _ _ (evalArgs (.ref C) true (backTo cpos (starEach (e₀ :: rest) (envOfC qual scope s.heap.objs.size f cdv))) []) _ _ _
   have hA' : wpAny (model P w) (jD (vz P w) P w K mg base N qual scope f cdv A outer s H E).A (spliced (backTo cpos (starEach (e₀ :: rest) (envOfC qual scope s.heap.objs.size f cdv)))) _ _ s1 := hA
   rw [he] at hA' ⊢
   refine Calls.evalArgs_plain (eY hA' fun us s2 ⟨vs, H2, I2, r, hl, q⟩ => ⟨rfl, ?_, ?_, ?_, ?_, fun h' e mk => Yj I2 mk q⟩)
   · show us.length ≤ sizeLine
     rw [← r.length]; exact hl
   · exact I2.bk _ _ hC
   · exact hN.keeps I2.bk
   · exact TL.keeps I2.bk
end
def VD (X : Cx) (pins : List (Addr × Obj)) (σ : St) (E : XK) (e : Value) (s' : Shared) : Prop := ∃ H1 s1, Inv X pins σ H1 s1 ∧ vz X.prog X.w X.stack H1 s1 E e s'
abbrev TEx := St → Hp → VK → XK → Prop
abbrev TSx := Ends → (St → XK) → St → Hp → Prop
def PEx (X : Cx) (e : Expr) (t : TEx) : Prop :=
 ∀ (pins : List (Addr × Obj)) (s : Shared) (σ : St) (H : Hp) (Q : VK) (E : XK), Inv X pins σ H s → t σ H Q E → wpAny (model X.prog X.w) X.A (eval e X.env) (EP X pins σ Q) (VD X pins σ E) s
def PSx (X : Cx) (st : Stmt) (t : TSx) : Prop :=
 ∀ (pins : List (Addr × Obj)) (s : Shared) (σ : St) (H : Hp) (D : Ends) (E : St → XK), Inv X pins σ H s → t D E σ H → wpAny (model X.prog X.w) X.A (exec st X.env) (SP X pins D) (fun e s' => ∃ σ', VD X pins σ' (E σ') e s') s
def ad8 (X : Cx) (st : List Stmt) (t : TSx) : Prop :=
 ∀ (pins : List (Addr × Obj)) (s : Shared) (σ : St) (H : Hp) (D : Ends) (E : St → XK), Inv X pins σ H s → t D E σ H → wpAny (model X.prog X.w) X.A (execs st X.env) (SP X pins D) (fun e s' => ∃ σ', VD X pins σ' (E σ') e s') s
section
variable {X : Cx} {k : Nat} {f C : Addr} {fd : FuncData} {ps : List Str} {sp : Sp} {nu : List V} {ds : List Value} {x m : Str} {p pos apos : Pos} {e o : Expr} {es : List Expr} {ta : TE} {t : TA}
theorem PA.Mv {es : List Expr} {t : TA} (h : PA X.Mv es t) (E : Value → Shared → Prop) {pos : Pos} {pins : List (Addr × Obj)} {s : Shared} {σ : St} {H : Hp} {Q : List V → Hp → Prop} (I : Inv X pins σ H s) (q : t σ H Q) :
   wpAny (model X.prog X.w) X.A (spliced (backTo pos (starEach es X.env))) (AP X pins σ Q) E s :=
 wpAny_mono (h pos pins s σ H Q (I.wish _) q) (fun _ _ ⟨vs, H', I', r, q⟩ => ⟨vs, H', I'.lH, r, q⟩) fun _ _ z => False.elim z
theorem Ym {pins : List (Addr × Obj)} {σ : St} {H : Hp} {s : Shared} {Q : VK} {E : XK} {us : List Value} {vs : List V} (F : aF X.prog X.w X.K X.mg X.base (vz X.prog X.w) k f fd ps sp) (hr : fK k X.A) (hb : Binds X.K fd ps ds) (hd : Vals nu ds)
   (I : Inv X pins σ H s) (r : Vals vs us) (h : sp (vs ++ nu) H Q E) : wpAny (model X.prog X.w) X.A (call (.ref f) us) (EP X pins σ Q) (VD X pins σ E) s := by
 have r2 : Vals (vs ++ nu) (us ++ ds) := r.append hd
 have hl : (us ++ ds).length = ps.length := by rw [← r2.length]; exact F.len _ _ _ _ h
 refine wpAny_call (codeAny_mono (F.run X.A X.stack s H ⟨us, []⟩ (us ++ ds) (vs ++ nu) Q E hr I.env0 (hb s us I.Ew hl) r2 h) fun r s' hq => ?_)
 cases r with
 | error e => exact ⟨H, s, I, hq⟩
 | ok fl =>
   cases fl with
   | ret u => exact I.after hq
   | next => exact False.elim hq
   | brk => exact False.elim hq
   | cont => exact False.elim hq
def aaT (sp : Sp) (nu : List V) (t : TA) : TEx := fun σ H Q E => t σ H fun vs H1 => sp (vs ++ nu) H1 Q E
theorem VF (F : aF X.prog X.w X.K X.mg X.base (vz X.prog X.w) k f fd ps sp) (hr : fK k X.A) (hg : Gl X x) (hm : X.mg x = some (.ref f)) (hk : PySem.W.keepIn X.K (.ref f) = true) (hb : Binds X.K fd ps ds) (hd : Vals nu ds)
   (ha : PA X.Mv (e :: es) t) (hdb : (x == ("__debug__" : Str)) = false := by decide) (he : starEach (e :: es) X.env = (false, eval e X.env) :: starEach es X.env := by rfl) (hpl : (backTo pos (starEach es X.env)).any (·.1) = false := by rfl) :
   PEx X (.Call (.Name x p) (e :: es) [] pos) (aaT sp nu t) := by
 intro pins s σ H Q E I h
 refine wpAny_Call_Name_kw (mG I hg hm ?_ hdb)
 refine PySem.W.callWith_K (h₀ := X.base) I.ok.mod.Xw hk (wpAny_mono (ha.Mv (VD X pins σ E) I h) (fun us s1 ⟨vs, H1, I1, r, q⟩ => ⟨I1.Ew, ?_⟩) fun _ _ z => z) he hpl
 exact Ym F hr hb hd I1 r q
def ad9 (te : TEx) : TSx := fun D E σ H => te σ H D.rt (E σ)
theorem Yn {te : TEx} (he : PEx X e te) : PSx X (.Return (some e) pos) (ad9 te) := by
 intro pins s σ H D E I h
 exact wpAny_Return_some (wpAny_mono (he pins s σ H _ _ I h) (fun v s1 ⟨x, H1, I1, r1, q1⟩ => ⟨x, σ, H1, I1, r1, q1⟩) fun e s' z => ⟨σ, z⟩)
theorem Yo {st : Stmt} {t : TSx} (h1 : PSx X st t) : ad8 X [st] t := by
 intro pins s σ H D E I h
 refine wpAny_execs_cons (wpAny_mono (h1 pins s σ H D E I h) (fun f s1 q => ?_) fun _ _ z => z)
 cases f with
 | next => exact wpAny_execs_nil q
 | ret v => exact q
 | brk => exact q
 | cont => exact q
end
def hcx (X : Cx) (e : Addr) : Cx := { X with A := X.A.mark (some (.ref e)), calm := false, xe := fun _ _ => False }
theorem VG {X : Cx} {e : Addr} {pins : List (Addr × Obj)} {σ : St} {H : Hp} {s : Shared} (I : Inv X pins σ H s) : Inv (hcx X e) pins σ H s := by
 obtain ⟨ok, os, bare, bs, loc, cell, free, kY, pin, hok, len⟩ := I
 exact ⟨⟨ok.mod, ok.kind, ok.glob, ok.blt, ok.above, ok.inj, ok.has, ok.cab, fun z => Bool.noConfusion (show false = true from z), ok.frames, ok.stk, ok.exf, ok.bs, ok.UL, ok.S7, ok.UT, ok.wz, ok.XN⟩, os, bare, bs, loc, cell, free, kY, pin, hok, len⟩
theorem Fb {X : Cx} {e : Addr} (ok : X.Ok) {pins : List (Addr × Obj)} {σ : St} {H : Hp} {s : Shared} (I : Inv (hcx X e) pins σ H s) : Inv X pins σ H s := by
 obtain ⟨_, os, bare, bs, loc, cell, free, kY, pin, hok, len⟩ := I
 exact ⟨ok, os, bare, bs, loc, cell, free, kY, pin, hok, len⟩
theorem aaU {X : Cx} {e : Addr} (ok : X.Ok) {pins : List (Addr × Obj)} {D : Ends} {f : Flow} {s : Shared} (h : SP (hcx X e) pins D f s) : SP X pins D f s := by
 cases f with
 | next => obtain ⟨σ', H', I, q⟩ := h; exact ⟨σ', H', Fb ok I, q⟩
 | brk => obtain ⟨σ', H', I, q⟩ := h; exact ⟨σ', H', Fb ok I, q⟩
 | cont => obtain ⟨σ', H', I, q⟩ := h; exact ⟨σ', H', Fb ok I, q⟩
 | ret u => obtain ⟨v, σ', H', I, r, q⟩ := h; exact ⟨v, σ', H', Fb ok I, r, q⟩
section
variable {X : Cx} {body suite : List Stmt} {b₀ : Stmt} {x : Str} {C : Addr} {np hpos pos : Pos} {tb : TSx} {th : TS}
def apl (K : PySem.W.Frag) (C : Addr) (tb : TSx) (th : TS) : TS := fun D σ H => tb D (fun σ' cls _ H' => PySem.W.exmOne K cls (.ref C) = some true ∧ th D σ' H') σ H
theorem aaV (hst : X.stack = X.env :: X.outer) (hfr : X.env.frame = some X.env.locals) (hb : ad8 X body tb) (hg : Gl X x) (hm : X.mg x = some (.ref C)) (hh : ∀ ea, jG (hcx X ea) (b₀ :: suite) th) (hd : (x == ("__debug__" : Str)) = false := by decide) :
   PS X (.Try body [.ExceptHandler (some (.Name x np)) none (b₀ :: suite) hpos] [] [] pos) (apl X.K C tb th) := by
 intro pins s σ H D I h
 refine wpAny_Try_except (wpAny_mono (hb pins s σ H D _ I h) (fun f s1 q => ?_) fun e s1 q => ?_)
 · cases f with
   | next => exact wpAny_execs_nil q
   | ret v => exact q
   | brk => exact q
   | cont => exact q
 · obtain ⟨σ', H1, s2, I1, ea, t, cls, H', B, rfl, fl, os, bare, hok, xu, hx, q⟩ := q
   rw [hst] at fl
   have back : ∀ (h' : Heap) (tk : Nat), B.StaysIn h' → h'.FunFrames B X.stack → XUn X.stack H1 H' s2.heap B h' → Inv X pins σ' H' { s1 with heap := h', toks := tk } := fun h' tk st fr xu' =>
     I1.call' (ch := []) os (xu'.un st fr) (hok.kept st) bare fun b z => nomatch z
   have fr0 : s1.heap.FunFrames B X.stack := by rw [hst]; exact fl.2.2.1
   refine wpAny_looks_onW (by rw [I.ok.frames, hst]) hfr fl fun h4 ZK up4 => ?_
   have x4 := xu.step fr0 up4
   refine wpAny_landsW ZK fun h5 fl5 up5 => ?_
   have fr4 : h4.FunFrames B X.stack := by rw [hst]; exact ZK.2.2.1
   have x5 := x4.step fr4 up5
   have Xx : h5.FunFrames B X.stack := by rw [hst]; exact fl5.2.2.1
   have I5 : Inv X pins σ' H' { s1 with heap := h5 } := back h5 s1.toks fl5.1 Xx x5
   obtain ⟨ob, hob, hobc⟩ := fl5.there
   have LT : Looks (model X.prog X.w) h5 (typeOf (.ref ea)) cls := hobc ▸ (Looks.ld hob).andThen .now
   refine wpAny_handleBy_cons (codeAny_handlers_test ?_) (by intro z; cases z)
   have ld := fun Q E q => mG (X := hcx X ea) (pos := np) (Q := Q) (E := E) (VG I5) hg hm q hd
   refine ld _ _ ?_
   refine (exm_one (M := model X.prog X.w) I5.Ew LT hx).here ?_
   refine codeAny_handlers_suite ?_
   refine lands_againW fl5 fun h6 fl6 up6 => ?_
   have x6 := x5.step Xx up6
   have fr6 : h6.FunFrames B X.stack := by rw [hst]; exact fl6.2.2.1
   have I6 : Inv X pins σ' H' { s1 with heap := h6 } := back h6 s1.toks fl6.1 fr6 x6
   exact wpAny_mono (hh ea pins _ σ' H' D (VG I6) q) (fun f s7 q7 => aaU I.ok q7) fun _ _ z => (show False from z).elim
end
end L2
namespace L2
open PySem PySem.Spec PyProof.Rows PySem.Calls PySem.W
section
variable {X : Cx} {pins : List (Addr × Obj)} {σ : St} {H : Hp} {s : Shared}
end
section
variable {X : Cx} {body suite : List Stmt} {b₀ : Stmt} {x n : Str} {C : Addr} {np hpos pos : Pos} {tb : TSx} {th : TS} {j : Nat}
end
end L2
namespace L2
open PySem PySem.Spec PyProof.Rows PySem.Calls
section
variable {X : Cx}
theorem vL : MtM X "str.startswith" (fun x vs H Q => ∃ z y, x = .str z ∧ vs = [.str y] ∧ Q (.bl (Txt.startswith z y)) H) := by
 intro pins s σ H x vs v us Q I rx rv h
 obtain ⟨z, y, rfl, rfl, q⟩ := h
 obtain ⟨t, rfl⟩ := rx
 obtain ⟨u, rfl, t', rfl⟩ := rv.one
 exact SC.startswith ⟨.bl _, H, I, rfl, q⟩
theorem Yp : MtM X "str.find" (fun x vs H Q => ∃ z y, x = .str z ∧ vs = [.str y] ∧ Q (.int (Txt.find z y)) H) := by
 intro pins s σ H x vs v us Q I rx rv h
 obtain ⟨z, y, rfl, rfl, q⟩ := h
 obtain ⟨t, rfl⟩ := rx
 obtain ⟨u, rfl, t', rfl⟩ := rv.one
 exact SC.find ⟨.int _, H, I.tok _, ⟨_, rfl⟩, q⟩
theorem Nj : MtM X "str.zfill" (fun x vs H Q => ∃ z i, x = .str z ∧ vs = [.int i] ∧ PadOk i = true ∧ Q (.str (Txt.zfill z i)) H) := by
 intro pins s σ H x vs v us Q I rx rv h
 obtain ⟨z, i, rfl, rfl, hz, q⟩ := h
 obtain ⟨t, rfl⟩ := rx
 obtain ⟨u, rfl, t', rfl⟩ := rv.one
 exact SC.zfill hz (fun t' k => ⟨.str _, H, I.tok _, ⟨_, rfl⟩, q⟩)
theorem Ge {c : Str} {j : Nat} {e : Expr} {te : TE} {p1 p2 pos : Pos} (he : PE X e te) (hc : c.length ≤ 1000 := by symm) :
   PE X (.JoinedStr [.Constant (.str c) j p1, .FormattedValue e 114 none p2] pos) (fun σ H Q => te σ H fun x H1 => ∃ z, x = .str z ∧ z.length ≤ 100000 ∧ (∀ k ∈ cd z, k < 1000) ∧ ∀ y, Q (.str y) H1) := by
 intro pins s σ H Q I h
 have l0 : (Str.empty ++ c).length = c.length := by rw [strLen_append]; exact Nat.zero_add _
 refine JoinedStr_many (joinParts_cons (Calls.Constant_str ⟨?_, ?_⟩))
 · rw [l0, sizeLine_eq]; omega
 · refine joinParts_cons (wpAny_FormattedValue_repr (eY (he pins _ σ H _ (I.tok _) h) fun v s1 ⟨x, H1, I1, r, z, ex, hz, hk, q⟩ => ?_))
   subst ex
   obtain ⟨t, rfl⟩ := r
   have hl : (reprText z).length ≤ 1000002 := Nat.le_trans (StrLaws.reprText_len z fun c hc => Nat.lt_of_lt_of_le (hk c hc) (by decide)) (by omega)
   refine wpAny_pyReprObj_str (formatField_str (fun t' tk => ⟨?_, joinParts_nil ⟨.str _, H1, I1.tok _, ⟨_, rfl⟩, q _⟩ ?_⟩) ?_) ?_
   · rw [strLen_append, l0, sizeLine_eq]; omega
   · rw [strLen_append, l0, sizeLine_eq]; omega
   · rw [sizeLine_eq]; omega
   · rw [sizeLine_eq]; omega
end
end L2
namespace L2
open PySem PySem.Spec PyProof.Rows PySem.Calls
structure Dg (K : PySem.W.Frag) (x qual : Str) (st : Stmt) (ds : List Value) (f : Addr) (fd : FuncData) : Prop where
 ex : ∃ (T : Addr) (oc : Value) (od : Option Addr) (kV doc pm : Value) (an : Option Addr) (cdv ct : Value) (osl : Array (Option Value)) (to : Obj) (n : Nat),
   fd = PySem.W.fnOf x qual (ak st) (aj st) (aa st) (.ref T) kV doc pm an cdv ct ∧ K.lookup f = some ⟨oc, od, .func fd, osl⟩ ∧ PySem.W.codeIn K cdv qual = true ∧ K.lookup T = some to ∧ to.cls = .type "tuple" ∧ to.data = .seq ds.toArray n
 kp : PySem.W.keepIn K (.ref f) = true
section
variable {P : Program} {w : World} {K : PySem.W.Frag} {mg : Str → Option Value} {base : Heap} {x qual : Str} {st : Stmt} {f : Addr} {fd : FuncData} {N ps : List Str} {k : Nat} {sp : Sp} {ds : List Value}
theorem Dg.ZG (F : Dg K x qual st ds f fd) (S : aq N ps (aa st)) (len : ∀ vs H Q E, sp vs H Q E → vs.length = ps.length)
   (hbody : ∀ (cdv : Value) (A : Around) (outer : List Env) (s : Shared) (H : Hp) (vs : List V) (Q : VK) (E : XK), fK k (A.deeper (envOfC qual (aa st) s.heap.objs.size f cdv)) → sp vs H Q E →
     ∃ t, jG (jD (vz P w) P w K mg base N qual (aa st) f cdv A outer s H E) (aj st) t ∧ t { nx := fun _ H' => Q .non H', rt := Q } (start N vs) H) : aF P w K mg base (vz P w) (k + 1) f fd ps sp := by
 obtain ⟨T, oc, od, kV, doc, pm, an, cdv, ct, osl, to, n, rfl, lk, hcd, _⟩ := F.ex
 exact Rz lk hcd S len fun A outer s H vs Q E hr hsp => hbody cdv A outer s H vs Q E hr hsp
theorem Dg.ok (F : Dg K x qual st ds f fd) (S : aq N ps (aa st)) (len : ∀ vs H Q E, sp vs H Q E → vs.length = ps.length)
   (hbody : ∀ (cdv : Value) (A : Around) (outer : List Env) (s : Shared) (H : Hp) (vs : List V) (Q : VK) (E : XK), fK k (A.deeper (envOfC qual (aa st) s.heap.objs.size f cdv)) → sp vs H Q E →
     ∃ t, jG (jD cD P w K mg base N qual (aa st) f cdv A outer s H E).Mv (aj st) t ∧ t { nx := fun _ H' => Q .non H', rt := Q } (start N vs) H) : aF P w K mg base cD (k + 1) f fd ps sp := by
 obtain ⟨T, oc, od, kV, doc, pm, an, cdv, ct, osl, to, n, rfl, lk, hcd, _⟩ := F.ex
 refine Rz lk hcd S len fun A outer s H vs Q E hr hsp => ?_
 obtain ⟨t, h, q⟩ := hbody cdv A outer s H vs Q E hr hsp
 exact ⟨t, h.Mv, q⟩
theorem Dg.binds {es : List Value} (F : Dg K x qual st ds f fd)
   (h : ∀ (T : Addr) (kV doc pm : Value) (an : Option Addr) (cdv ct : Value) (us : List Value) (M : Model) (A : Around) (E : Value → Shared → Prop) (Q : List (Str × Value) → Shared → Prop) (s : Shared) (to : Obj) (n : Nat), s.heap.get? T = some to → to.cls = .type "tuple" → to.data = .seq ds.toArray n →
     (us ++ es).length = ps.length → Q (ps.zip (us ++ es)) s → wpAny M A (bindArgs (PySem.W.fnOf x qual (ak st) (aj st) (aa st) (.ref T) kV doc pm an cdv ct) ⟨us, []⟩) Q E s) : Binds K fd ps es := by
 obtain ⟨T, oc, od, kV, doc, pm, an, cdv, ct, osl, to, n, rfl, lk, hcd, lt, tc, td⟩ := F.ex
 intro s us X hl M A E Q q
 exact h T kV doc pm an cdv ct us M A E Q s to n (X _ _ lt) tc td hl q
end
section
variable {K : PySem.W.Frag} {C D : Addr} {cd : ClassData} {r b : Bool} {T : String}
theorem nD : PySem.W.kitOne K (.ref D) (.ref D) = some true := by unfold PySem.W.kitOne; rw [if_pos (beq_self_eq_true _)]
theorem Gf (h1 : PySem.W.clsIn K C = some cd) (h2 : PySem.W.typeIn K (.ref C) = some (.type "type")) (h3 : PySem.W.mroIn K D (.ref C) = some r) : PySem.W.kitCls K (.ref D) (.ref C) = some r := by
 show (if ((PySem.W.clsIn K C).isSome && PySem.W.typeIn K (.ref C) == some (.type "type")) = true then PySem.W.mroIn K D (.ref C) else none) = some r
 rw [h1, h2, h3]; rfl
theorem mJ (h1 : PySem.W.clsIn K C = some cd) (h2 : PySem.W.typeIn K (.ref C) = some (.type "type")) (h3 : PySem.W.mroIn K D (.ref C) = some r) (hne : (Value.ref D == Value.ref C) = false) : PySem.W.kitOne K (.ref D) (.ref C) = some r := by
 unfold PySem.W.kitOne
 rw [if_neg (by rw [hne]; decide)]
 exact Gf h1 h2 h3
theorem Yq (h0 : PySem.W.subIn K (.ref C) (.type "BaseException") = some true) (h1 : PySem.W.clsIn K C = some cd) (h2 : PySem.W.typeIn K (.ref C) = some (.type "type")) (h3 : PySem.W.mroIn K D (.ref C) = some r) : PySem.W.exmOne K (.ref D) (.ref C) = some r := by
 unfold PySem.W.exmOne
 rw [h0, if_pos (by rfl)]
 exact Gf h1 h2 h3
theorem Fd {α : Type} {us ds : List α} {n m : Nat} (h : (us ++ ds).length = n) (hm : ds.length + m = n) : us.length = m := by rw [List.length_append] at h; omega
theorem xP {x qual : Str} {st : Stmt} {f T : Addr} {oc : Value} {od an dd : Option Addr} {osl dsl : Array (Option Value)} {kV doc pm cdv ct : Value} {ds : List Value} {n : Nat} (l : K.lookup f = some ⟨oc, od, .func (PySem.W.fnOf x qual (ak st) (aj st) (aa st) (.ref T) kV doc pm an cdv ct), osl⟩)
   (c : PySem.W.codeIn K cdv qual = true) (k : PySem.W.keepIn K (.ref f) = true) (lt : K.lookup T = some ⟨.type "tuple", dd, .seq ds.toArray n, dsl⟩) : Dg K x qual st ds f (PySem.W.fnOf x qual (ak st) (aj st) (aa st) (.ref T) kV doc pm an cdv ct) :=
 ⟨⟨T, oc, od, kV, doc, pm, an, cdv, ct, osl, _, n, rfl, l, c, lt, rfl, rfl⟩, k⟩
end
end L2
namespace L2
theorem Bt.ValueError : PySem.bootBuiltins "ValueError" = some (.type "ValueError") := PyProof.Rows.Boot.«ValueError»
open PySem PySem.Spec PyProof.Rows
def VH : Str := "0123456789"
def inF (c : Nat) : Bool := !(Builtin.Str.occurrences VH (S [c]) 0 VH.length 1).isEmpty
theorem qY (c : Nat) : inF c = true ↔ 48 ≤ c ∧ c ≤ 57 := by
 have h : inF c = decide (c ∈ VH.cps.toList) := StrLaws.found_one VH c
 have e : VH.cps.toList = [48, 49, 50, 51, 52, 53, 54, 55, 56, 57] := by symm
 rw [h, e, decide_eq_true_iff]
 simp only [List.mem_cons, List.not_mem_nil, or_false]
 omega
theorem apm {c : Nat} (h : inF c = true) : Builtin.Str.occurrences VH (S [c]) 0 VH.length 1 = [c - 48] := by
 obtain ⟨h1, h2⟩ := (qY c).mp h
 have : c = 48 ∨ c = 49 ∨ c = 50 ∨ c = 51 ∨ c = 52 ∨ c = 53 ∨ c = 54 ∨ c = 55 ∨ c = 56 ∨ c = 57 := by omega
 rcases this with e | e | e | e | e | e | e | e | e | e <;> (subst e; decide +kernel)
theorem findF {c : Nat} (h : inF c = true) : Txt.find VH (S [c]) = ((c - 48 : Nat) : Int) := by
 unfold Txt.find
 rw [apm h]
def val (l : List Nat) : Int := l.foldl (fun a c => a * 10 + ((c - 48 : Nat) : Int)) 0
theorem Gg (l : List Nat) (c : Nat) : val (l ++ [c]) = val l * 10 + ((c - 48 : Nat) : Int) := by unfold val; rw [List.foldl_append]; rfl
theorem VJ {l : List Nat} {i c : Nat} (h : l[i]? = some c) : val (l.take (i + 1)) = val (l.take i) * 10 + ((c - 48 : Nat) : Int) := by
 rw [List.take_succ, h]; exact Gg _ _
theorem Az : ∀ (n : Nat) (l : List Nat), l.length = n → l.all inF = true → 0 ≤ val l ∧ val l < 10 ^ n
 | 0, l, e, _ => by rw [List.eq_nil_of_length_eq_zero e]; exact ⟨by decide, by decide⟩
 | n + 1, l, e, h => by
   have hne : l ≠ [] := fun z => by rw [z] at e; cases e
   have el : l = l.dropLast ++ [l.getLast hne] := (List.dropLast_concat_getLast hne).symm
   rw [el, List.all_append, Bool.and_eq_true] at h
   obtain ⟨i1, i2⟩ := Az n l.dropLast (by rw [List.length_dropLast]; omega) h.1
   have hc := (qY (l.getLast hne)).mp (by simpa using h.2)
   rw [el, Gg, Int.pow_succ]
   exact ⟨by omega, by omega⟩
theorem VL {x : Int} {n : Nat} (h0 : 0 ≤ x) (h : x < 10 ^ n) : ib x ≤ 4 * n := by
 refine Vw ?_
 have h1 : (10 : Int) ^ n ≤ 16 ^ n := by
   have : (10 : Nat) ^ n ≤ 16 ^ n := Nat.pow_le_pow_left (by decide) n
   exact_mod_cast this
 have h2 : ((2 : Nat) ^ (4 * n)) = 16 ^ n := by rw [Nat.pow_mul]
 rw [h2]
 have h3 : x < ((16 ^ n : Nat) : Int) := by
   have e : ((16 ^ n : Nat) : Int) = (16 : Int) ^ n := by push_cast; rfl
   rw [e]; omega
 omega
theorem Yr (l : List Nat) (k : Nat) : nA l (some (k : Int)) none = l.drop k := by
 unfold nA
 have e1 : HT.tH l.length 0 (some (k : Int)) = min k l.length := HT.X5 l.length 0 k
 have e2 : HT.tH l.length l.length none = l.length := rfl
 rw [e1, e2]
 by_cases h : k ≤ l.length
 · rw [Nat.min_eq_left h, List.take_of_length_le (by rw [List.length_drop]; exact Nat.le_refl _)]
 · rw [Nat.min_eq_right (by omega), List.drop_length, List.drop_eq_nil_of_le (by omega), List.take_nil]
theorem RG (z : Str) (k : Nat) : Txt.startswith z (S [k]) = decide ((cd z).take 1 = [k]) := by
 unfold Txt.startswith Builtin.Str.subAt
 have hl : (S [k]).length = 1 := rfl
 rw [hl]
 have hz : z.length = (cd z).length := yD z
 have e : z = S (cd z) := (fL z).symm
 cases h : cd z with
 | nil =>
   rw [hz, h]
   simp
 | cons c r =>
   rw [hz, h]
   have ex : z.cps.extract 0 (0 + 1) = #[c] := by
     apply Array.ext'
     rw [Array.toList_extract]
     have : z.cps.toList = c :: r := h
     rw [this]; rfl
   rw [ex]
   have e1 : decide (0 + 1 ≤ (c :: r).length) = true := decide_eq_true (by rw [List.length_cons]; omega)
   have e2 : (c :: r).take 1 = [c] := rfl
   rw [e1, e2, Bool.true_and]
   by_cases hk : c = k
   · subst hk
     rw [decide_eq_true rfl]
     show (#[c] == #[c]) = true
     exact beq_self_eq_true _
   · have e3 : ([c] = [k]) = False := by
       rw [eq_iff_iff]; exact ⟨fun h => hk (List.cons.inj h).1, False.elim⟩
     rw [decide_eq_false (by rw [e3]; exact not_false)]
     show (#[c] == #[k]) = false
     rw [beq_eq_false_iff_ne]
     intro h
     exact hk (List.cons.inj (congrArg Array.toList h)).1
theorem Qv (x y : Str) : decide (V.str x = V.str y) = decide (cd x = cd y) := by
 rw [Bool.eq_iff_iff, decide_eq_true_iff, decide_eq_true_iff]
 exact ⟨fun h => congrArg cd (V.str.inj h), fun h => congrArg V.str (yY h)⟩
def yh (l : List Nat) : List Nat := if l.take 1 = [45] then l.drop 1 else l
def fM (l : List Nat) (most : Int) : Option Int :=
 if (yh l).length < 1 ∨ most < (yh l).length ∨ ((yh l).take 1 = [48] ∧ l ≠ [48]) ∨ (yh l).all inF = false then none
 else some (if l.take 1 = [45] then - val (yh l) else val (yh l))
def Dh (l : List Nat) : Bool := decide (0 < l.length) && l.all inF
theorem p7 (l : List Nat) : Dh l = true ↔ 0 < l.length ∧ l.all inF = true := by unfold Dh; rw [Bool.and_eq_true, decide_eq_true_iff]
theorem Nk {l : List Nat} {m : Int} (h : Dh (yh l) = false) : fM l m = none := by
 unfold fM
 rw [if_pos]
 by_cases h1 : (yh l).length < 1
 · exact .inl h1
 · refine .inr (.inr (.inr ?_))
   cases e : (yh l).all inF with
   | false => rfl
   | true => exact absurd ((p7 _).mpr ⟨by omega, e⟩) (by rw [h]; decide)
theorem Nm {l : List Nat} {m : Int} (h : (yh l).take 1 = [48]) (h2 : l ≠ [48]) : fM l m = none := if_pos (.inr (.inr (.inl ⟨h, h2⟩)))
theorem Np {l : List Nat} {m : Int} (h : m < (yh l).length) : fM l m = none := if_pos (.inr (.inl h))
theorem Nq {l : List Nat} {m : Int} (h1 : Dh (yh l) = true) (h2 : ¬ (yh l).take 1 = [48]) (h3 : ¬ m < (yh l).length) : fM l m = some (if l.take 1 = [45] then - val (yh l) else val (yh l)) := by
 unfold fM
 rw [if_neg]
 obtain ⟨a, b⟩ := (p7 _).mp h1
 intro h
 rcases h with h | h | h | h
 · omega
 · exact h3 h
 · exact h2 h.1
 · rw [b] at h; cases h
theorem Tu {most : Int} (h : 1 ≤ most) : fM [48] most = some 0 := by
 unfold fM
 have e1 : yh [48] = [48] := by decide
 rw [e1, if_neg]
 · decide
 · intro h
   rcases h with h | h | h | h
   · exact absurd h (by decide)
   · simp only [List.length_cons, List.length_nil] at h; omega
   · exact absurd rfl h.2
   · exact absurd h (by symm)
theorem Nr {l : List Nat} (h : 1 ≤ l.length) : ∃ c, wB l 0 = some c ∧ l.take 1 = [c] := by
 cases l with
 | nil => cases h
 | cons c r => exact ⟨c, yG (j := 0) rfl, rfl⟩
structure bN (n : Nat) (z : Str) : Prop where
 len : z.length ≤ n
 KY : ∀ c ∈ cd z, c < 1000
theorem bN.mono {n m : Nat} {z : Str} (h : bN n z) (l : n ≤ m) : bN m z := ⟨Nat.le_trans h.len l, h.KY⟩
theorem bN.app {n m : Nat} {x y : Str} (h : bN n x) (k : bN m y) : bN (n + m) (x ++ y) := by
 refine ⟨?_, fun c hc => ?_⟩
 · rw [yD, yF, List.length_append, ← yD, ← yD]; have := h.len; have := k.len; omega
 · rw [yF] at hc
   rcases List.mem_append.mp hc with e | e
   · exact h.KY c e
   · exact k.KY c e
theorem bN.cut {n : Nat} {z : Str} (h : bN n z) (lo hi : Option Int) : bN n (S (nA (cd z) lo hi)) := by
 refine ⟨?_, fun c hc => ?_⟩
 · rw [zW]; unfold nA; rw [List.length_take, List.length_drop, ← yD]; have := h.len; omega
 · rw [dq] at hc; exact h.KY c (List.mem_of_mem_drop (List.mem_of_mem_take hc))
theorem bN.size {n : Nat} {z : Str} (h : bN n z) (hn : n ≤ 100000 := by decide) : z.length ≤ sizeLine := by rw [sizeLine_eq]; have := h.len; omega
theorem bN.int {i : Int} {k : Nat} (hk : 0 < k) (h : i.natAbs < 10 ^ k) : bN (k + 1) (toString i) := by
 refine ⟨?_, fun c hc => ?_⟩
 · rw [show ((toString i : String) : Str).length = (toString i).length from PySem.ofString_length _]
   exact int_text_length_le10 hk h
 · rcases Nat.lt_or_ge c 1000 with z | z
   · exact z
   · exact absurd hc (int_text_free' c ⟨by omega, by omega⟩ i)
end L2
namespace L2
open PySem PySem.Spec PyProof.Rows PySem.Calls
structure EqJ (X : Cx) (H : Hp) (n : Nat) (x y : V) (b : Bool) : Prop where
 rc : ∀ (pins : List (Addr × Obj)) (s : Shared) (σ : St) (u v : Value) (A : Around), Inv X pins σ H s → RelV x u → RelV y v → A.units + n < cLine → SeqAt.RcAt A s u v b
 ne : ∀ (pins : List (Addr × Obj)) (s : Shared) (σ : St) (u v : Value) (A : Around), Inv X pins σ H s → RelV x u → RelV y v → A.units + n < cLine → SeqAt.RcNeAt A s u v (!b)
def Nt (X : Cx) (H : Hp) (n : Nat) (x y : V) (b : Bool) : Prop :=
 ∀ (pins : List (Addr × Obj)) (s : Shared) (σ : St) (u v : Value) (A : Around), Inv X pins σ H s → RelV x u → RelV y v → A.units + n < cLine → SeqAt.EqAt A s u v b
section
variable {X : Cx} {H : Hp} {n : Nat} {x y : V} {b : Bool} {p q : Addr} {xs ys : List V}
theorem Nu (fx : gw x = true) (fy : gw y = true) : Nt X H n x y (Ti x y) := fun _ _ _ _ _ _ _ rx ry _ => Vh rx ry fx fy
theorem Gh : Nt X H n (.ref p) (.ref p) true := fun _ _ _ _ _ _ _ rx ry _ => by cases rx; cases ry; exact SeqAt.EqAt.same _
theorem Gi (hn : p ≠ q) (h : EqJ X H n (.ref p) (.ref q) b) : Nt X H n (.ref p) (.ref q) b := fun pins s σ u v A I rx ry hu => by
 have r := h.rc pins s σ u v A I rx ry hu
 cases rx; cases ry
 exact SeqAt.EqAt.of_refs hn r
theorem yj {xs : List V} {us : List Value} (r : Vals xs us) {j : Nat} (h : j < us.toArray.size) : ∃ x, xs[j]? = some x ∧ RelV x us.toArray[j] := by
 have hj : j < us.length := by simpa using h
 have hx : j < xs.length := by rw [r.length]; exact hj
 obtain ⟨u, hu, ru⟩ := r.get (List.getElem?_eq_getElem hx)
 refine ⟨xs[j], List.getElem?_eq_getElem hx, ?_⟩
 rw [List.getElem?_eq_getElem hj] at hu
 cases hu
 simpa using ru
theorem uV {e : Nat → Bool} (h : bz X.K H p xs) (k : bz X.K H q ys) (hl : xs.length = ys.length) (he : ∀ (j : Nat) x y, xs[j]? = some x → ys[j]? = some y → Nt X H n x y (e j)) :
   EqJ X H (n + 1) (.ref p) (.ref q) ((List.range xs.length).all e) := by
 have g : ∀ (pins : List (Addr × Obj)) (s : Shared) (σ : St) (A : Around), Inv X pins σ H s → A.units + (n + 1) < cLine → ∃ its its' : List Value, s.heap.IsList p its.toArray ∧ s.heap.IsList q its'.toArray ∧ its.toArray.size = its'.toArray.size ∧ its.toArray.size = xs.length ∧
     ∀ j (h1 : j < its.toArray.size) (h2 : j < its'.toArray.size), SeqAt.EqAt A.in1 s its.toArray[j] its'.toArray[j] (e j) := fun pins s σ A I hu => by
   obtain ⟨its, r, pl, _⟩ := I.list h
   obtain ⟨its', r', pl', _⟩ := I.list k
   have l1 := r.length
   have l2 := r'.length
   refine ⟨its, its', pl.isList, pl'.isList, by simp only [List.size_toArray]; omega, by simp only [List.size_toArray]; omega, fun j h1 h2 => ?_⟩
   obtain ⟨x, hx, rx⟩ := yj r h1
   obtain ⟨y, hy, ry⟩ := yj r' h2
   exact he j x y hx hy pins s σ _ _ A.in1 I rx ry (by show A.units + 1 + n < _; omega)
 refine ⟨fun pins s σ u v A I rx ry hu => ?_, fun pins s σ u v A I rx ry hu => ?_⟩ <;> (cases rx; cases ry; have hu' : A.units < cLine := by omega)
 · obtain ⟨its, its', a, b, c, d, z⟩ := g pins s σ A I hu
   rw [← d]; exact SeqAt.RcAt.lists a b c hu' z
 · obtain ⟨its, its', a, b, c, d, z⟩ := g pins s σ A I hu
   rw [← d]; exact SeqAt.RcNeAt.lists a b c hu' z
theorem Nv {e : Nat → Bool} (h : lG X.K H p xs) (k : lG X.K H q ys) (he : ∀ (j : Nat) x y, xs[j]? = some x → ys[j]? = some y → Nt X H n x y (e j)) :
   EqJ X H (n + 1) (.ref p) (.ref q) ((List.range (min xs.length ys.length)).all e && xs.length == ys.length) := by
 have g : ∀ (pins : List (Addr × Obj)) (s : Shared) (σ : St) (A : Around), Inv X pins σ H s → A.units + (n + 1) < cLine → ∃ its its' : List Value, s.heap.IsTuple p its.toArray ∧ s.heap.IsTuple q its'.toArray ∧ its.toArray.size = xs.length ∧ its'.toArray.size = ys.length ∧
     ∀ j (h1 : j < its.toArray.size) (h2 : j < its'.toArray.size), SeqAt.EqAt A.in1 s its.toArray[j] its'.toArray[j] (e j) := fun pins s σ A I hu => by
   obtain ⟨its, r, pl, _⟩ := I.tuple h
   obtain ⟨its', r', pl', _⟩ := I.tuple k
   have l1 := r.length
   have l2 := r'.length
   refine ⟨its, its', pl, pl', by simp only [List.size_toArray]; omega, by simp only [List.size_toArray]; omega, fun j h1 h2 => ?_⟩
   obtain ⟨x, hx, rx⟩ := yj r h1
   obtain ⟨y, hy, ry⟩ := yj r' h2
   exact he j x y hx hy pins s σ _ _ A.in1 I rx ry (by show A.units + 1 + n < _; omega)
 refine ⟨fun pins s σ u v A I rx ry hu => ?_, fun pins s σ u v A I rx ry hu => ?_⟩ <;> (cases rx; cases ry; have hu' : A.units < cLine := by omega)
 · obtain ⟨its, its', a, b, c, d, z⟩ := g pins s σ A I hu
   rw [← c, ← d]; exact SeqAt.RcAt.tuples a b hu' z
 · obtain ⟨its, its', a, b, c, d, z⟩ := g pins s σ A I hu
   rw [← c, ← d]
   exact SeqAt.RcNeAt.tuples a b hu' z
theorem Nx {x : V} (h : gw x = true) : Ti x x = true := by
 cases x <;> first | rfl | exact beq_self_eq_true _ | cases h
def Tv : List V → List V → Bool
 | [], [] => true
 | x :: xs, y :: ys => Ti x y && Tv xs ys
 | _, _ => false
theorem JW : ∀ {xs ys : List V}, xs.length = ys.length → (List.range xs.length).all (fun j => Ti (xs.getD j .non) (ys.getD j .non)) = Tv xs ys
 | [], [], _ => rfl
 | x :: xs, y :: ys, h => by
   have h' : xs.length = ys.length := Nat.succ.inj h
   rw [List.length_cons, List.range_succ_eq_map, List.all_cons, List.all_map, Tv, ← JW h']
   rfl
 | [], _ :: _, h => by cases h
 | _ :: _, [], h => by cases h
theorem RJ : ∀ {xs ys : List V}, Tv xs ys = true → xs.length = ys.length
 | [], [], _ => rfl
 | x :: xs, y :: ys, h => by rw [Tv, Bool.and_eq_true] at h; rw [List.length_cons, List.length_cons, RJ h.2]
 | [], _ :: _, h => by cases h
 | _ :: _, [], h => by cases h
theorem yl : ∀ {xs : List V}, xs.all gw = true → Tv xs xs = true
 | [], _ => rfl
 | x :: xs, h => by rw [List.all_cons, Bool.and_eq_true] at h; rw [Tv, Nx h.1, yl h.2]; rfl
theorem RK {xs : List V} (h : xs.all gw = true) {j : Nat} {x : V} (e : xs[j]? = some x) : gw x = true ∧ xs.getD j .non = x :=
 ⟨List.all_eq_true.mp h x (List.mem_of_getElem? e), by rw [List.getD, e]; rfl⟩
theorem Tw (h : lG X.K H p xs) (k : lG X.K H q ys) (fx : xs.all gw = true) (fy : ys.all gw = true) : EqJ X H (n + 1) (.ref p) (.ref q) (Tv xs ys) := by
 have e : ((List.range (min xs.length ys.length)).all (fun j => Ti (xs.getD j .non) (ys.getD j .non)) && xs.length == ys.length) = Tv xs ys := by
   by_cases hl : xs.length = ys.length
   · rw [← hl, Nat.min_self, beq_self_eq_true, Bool.and_true]; exact JW hl
   · have : Tv xs ys = false := by
       cases e : Tv xs ys with
       | false => rfl
       | true => exact absurd (RJ e) hl
     rw [this, beq_eq_false_iff_ne.mpr hl, Bool.and_false]
 rw [← e]
 refine Nv h k fun j x y hx hy => ?_
 obtain ⟨a, a'⟩ := RK fx hx
 obtain ⟨b, b'⟩ := RK fy hy
 rw [a', b']
 exact Nu a b
theorem aaX (hu : X.A.units + 20 < cLine) : ir X (compareOp .Eq) (fun x y H Q => ∃ b, EqJ X H 20 x y b ∧ Q (.bl b) H) := by
 intro pins s σ H x y v u Q I rx ry h
 obtain ⟨b, e, q⟩ := h
 exact e.rc pins s σ v u X.A I rx ry hu X.prog X.w X.xe _ ⟨.bl b, H, I, rfl, q⟩
theorem VM (hu : X.A.units + 20 < cLine) : ir X (compareOp .NotEq) (fun x y H Q => ∃ b, EqJ X H 20 x y b ∧ Q (.bl (!b)) H) := by
 intro pins s σ H x y v u Q I rx ry h
 obtain ⟨b, e, q⟩ := h
 exact e.ne pins s σ v u X.A I rx ry hu X.prog X.w X.xe _ ⟨.bl (!b), H, I, rfl, q⟩
theorem aaY {A : Around} {k : Nat} (hr : fK k A) : A.units + 20 < cLine := by have := hr.units; omega
end
end L2
namespace L2
open PySem PySem.Spec PyProof.Rows PySem.Calls
section
variable {P : Program} {w : World} {K : PySem.W.Frag} {mg : Str → Option Value} {base : Heap}
structure ym (P : Program) (w : World) (K : PySem.W.Frag) (mg : Str → Option Value) (base : Heap) (CX : Ez) (k : Nat) (C : Addr) (m : Str) where
 f : Addr
 fd : FuncData
 ps : List Str
 sp : Sp
 ds : List Value
 nu : List V
 c : uU K C
 hm : Meth K C m f
 F : aF P w K mg base CX k f fd ps sp
 hb : Binds K fd ps ds
 hd : Vals nu ds
end
theorem Qw {X : Cx} : Passes (vz X.prog X.w) X E0 := fun _ _ _ _ _ _ _ h => by
 obtain ⟨_, _, _, _, _, _, _, _, _, _, _, z⟩ := h
 exact z.elim
section
variable {X : Cx} {CX : Ez} {k : Nat} {E : XK} {m : Str} {pos apos : Pos} {e o : Expr} {es : List Expr} {ta : TE} {t : TA}
def VN (X : Cx) (CX : Ez) (k : Nat) (m : Str) (E : XK) (ta : TE) (t : TA) : TE := fun σ H Q => ta σ H fun x H1 => ∃ (a C dx : Addr) (fs : List (Str × V)) (M : ym X.prog X.w X.K X.mg X.base CX k C m), x = .ref a ∧ H1 a = some (.ins C dx fs) ∧ fs.lookup m = none ∧
 t σ H1 fun vs H2 => M.sp (x :: (vs ++ M.nu)) H2 Q E
theorem yo {pl : Sem Bool} (hr : fK k X.A) (hx : Passes CX X E) (he : PE X o ta) (ha : PA X (e :: es) t)
   (hst : starEach (e :: es) X.env = (false, eval e X.env) :: starEach es X.env := by rfl) (hpl : (backTo pos (starEach es X.env)).any (·.1) = false := by rfl)
   (ht : eval (.Call (.Attribute o m apos) (e :: es) [] pos) X.env = (do
     let ov ← eval o X.env
     standAt apos.atName
     let (f, first) ← holding [ov] (getMethod ov m pl)
     callWith pos f first (backTo pos (starEach (e :: es) X.env)) (backToKw pos (keywordEach [] X.env))) := by rfl) :
   PE X (.Call (.Attribute o m apos) (e :: es) [] pos) (VN X CX k m E ta t) := by
 intro pins s σ H Q I h
 refine PySem.W.methodCall_KW (pl := pl) (eY (he pins s σ H _ I h) fun u s1 ⟨x, H1, I1, rx, a, C, dx, fs, M, ex, ea, l, q⟩ => ?_) ht
 subst ex
 obtain rfl : u = Value.ref a := rx
 refine Fw I1 ea M.c M.hm l ?_
 refine PySem.W.callWith_K (first := [.ref a]) (h₀ := X.base) I.ok.mod.Xw M.hm.kp (eY (ha pos pins s1 σ H1 _ I1 q) fun us s2 ⟨vs, H2, I2, r, q2⟩ => ⟨I2.Ew, ?_⟩) hst hpl
 exact Ky (us := .ref a :: us) (vs := .ref a :: vs) M.F hr M.hb M.hd hx I2 (.cons rfl r) q2
theorem yE {pl : Sem Bool} (hr : fK k X.A) (hx : Passes CX X E) (he : PE X o ta)
   (ht : eval (.Call (.Attribute o m apos) [] [] pos) X.env = (do
     let ov ← eval o X.env
     standAt apos.atName
     let (f, first) ← holding [ov] (getMethod ov m pl)
     callWith pos f first (backTo pos (starEach [] X.env)) (backToKw pos (keywordEach [] X.env))) := by rfl) :
   PE X (.Call (.Attribute o m apos) [] [] pos) (VN X CX k m E ta qT) := by
 intro pins s σ H Q I h
 refine PySem.W.methodCall_KW (pl := pl) (eY (he pins s σ H _ I h) fun u s1 ⟨x, H1, I1, rx, a, C, dx, fs, M, ex, ea, l, q⟩ => ?_) ht
 subst ex
 obtain rfl : u = Value.ref a := rx
 refine Fw I1 ea M.c M.hm l ?_
 exact PySem.W.callWith_K0 (first := [.ref a]) I1.Ew M.hm.kp (Ky (us := [.ref a]) (vs := [.ref a]) M.F hr M.hb M.hd hx I1 (.cons rfl .nil) q)
structure VP (K : PySem.W.Frag) (C : Addr) (m : Str) (f : Addr) : Prop where
 rd : PySem.W.readsIn K C (.type "type") = true
 at_ : PySem.W.findCls K (.ref C) (.type "type") m = some (.val (.ref f))
 sp : PySem.W.specialIn K (.ref C) "__getattribute__" = some (some (.builtin "type.__getattribute__"))
 kp : PySem.W.keepIn K (.ref f) = true
theorem tM {pl : Sem Bool} {C f : Addr} {fd : FuncData} {ps : List Str} {sp : Sp} {x : Str} {np : Pos} (c : VP X.K C m f) (F : aF X.prog X.w X.K X.mg X.base CX k f fd ps sp) (hr : fK k X.A) (hg : Gl X x) (hmg : X.mg x = some (.ref C)) (hb : Binds X.K fd ps []) (hx : Passes CX X E)
   (ha : PA X (e :: es) t) (hd : (x == ("__debug__" : Str)) = false := by decide)
   (hst : starEach (e :: es) X.env = (false, eval e X.env) :: starEach es X.env := by rfl) (hpl : (backTo pos (starEach es X.env)).any (·.1) = false := by rfl)
   (ht : eval (.Call (.Attribute (.Name x np) m apos) (e :: es) [] pos) X.env = (do
     let ov ← eval (.Name x np) X.env
     standAt apos.atName
     let (f, first) ← holding [ov] (getMethod ov m pl)
     callWith pos f first (backTo pos (starEach (e :: es) X.env)) (backToKw pos (keywordEach [] X.env))) := by rfl) :
   PE X (.Call (.Attribute (.Name x np) m apos) (e :: es) [] pos) (Vd sp [] E t) := by
 intro pins s σ H Q I h
 refine PySem.W.methodCall_KW (pl := pl) (mG I hg hmg ?_ hd) ht
 refine PySem.W.method_cls I.Ew c.sp (PySem.W.cls_value (s := s) I.Ew c.rd c.at_ rfl ?_)
 refine PySem.W.callWith_K (first := []) (h₀ := X.base) I.ok.mod.Xw c.kp (eY (ha pos pins _ σ H _ (I.tok _) h) fun us s2 ⟨vs, H2, I2, r, q2⟩ => ⟨I2.Ew, ?_⟩) hst hpl
 exact Ky (us := us) (vs := vs) F hr hb .nil hx I2 r q2
end
end L2
namespace L2
open PySem PySem.Spec PyProof.Rows
def vM (l : List Nat) : List Nat := l.dropWhile (· == 32)
def qZ (l : List Nat) : List Nat := (vM (vM l).reverse).reverse
theorem Ba (a : Nat) (l : List Nat) : vM (List.replicate a 32 ++ l) = vM l := by
 induction a with
 | zero => rfl
 | succ a ih => rw [List.replicate_succ, List.cons_append]; unfold vM; rw [List.dropWhile_cons, if_pos (by decide)]; exact ih
theorem JX {l : List Nat} (h : ∀ c, l.head? = some c → c ≠ 32) : vM l = l := by
 cases l with
 | nil => rfl
 | cons a r => unfold vM; rw [List.dropWhile_cons, if_neg (by simpa using h a rfl)]
theorem Ny {a b : Nat} {w : List Nat} (h1 : ∀ c, w.head? = some c → c ≠ 32) (h2 : ∀ c, w.getLast? = some c → c ≠ 32) : qZ (List.replicate a 32 ++ w ++ List.replicate b 32) = w := by
 unfold qZ
 rw [List.append_assoc, Ba]
 cases w with
 | nil =>
   rw [List.nil_append]
   have : vM (List.replicate b 32) = [] := by have := Ba b []; rwa [List.append_nil] at this
   rw [this]; rfl
 | cons x r =>
   have e : vM (x :: r ++ List.replicate b 32) = x :: r ++ List.replicate b 32 := JX fun c hc => h1 c hc
   rw [e, List.reverse_append, List.reverse_replicate, Ba]
   have e2 : vM (x :: r).reverse = (x :: r).reverse := JX fun c hc => h2 c (by rwa [List.head?_reverse] at hc)
   rw [e2, List.reverse_reverse]
theorem tO {w : List Nat} (h1 : ∀ c, w.head? = some c → c ≠ 32) (h2 : ∀ c, w.getLast? = some c → c ≠ 32) : qZ w = w := by
 have := Ny (a := 0) (b := 0) h1 h2
 simpa using this
theorem JZ {w : List Nat} (h : ∀ c ∈ w, c ≠ 32) : qZ w = w := tO (fun c hc => h c (List.mem_of_mem_head? hc)) (fun c hc => h c (List.mem_of_getLast? hc))
def dig (n : Nat) : List Nat := (Nat.toDigits 10 n).map Char.toNat
theorem RL : ∀ d : Nat, d < 10 → (Nat.digitChar d).toNat = 48 + d := by decide
theorem KZ {n : Nat} (h : n < 10) : dig n = [48 + n] := by
 unfold dig; rw [Nat.toDigits_of_lt_base h]; show [(Nat.digitChar n).toNat] = _; rw [RL n h]
theorem Qx {n : Nat} (h : 10 ≤ n) : dig n = dig (n / 10) ++ [48 + n % 10] := by
 unfold dig; rw [Nat.toDigits_of_base_le (by decide) h, List.map_append]; show _ ++ [(Nat.digitChar (n % 10)).toNat] = _; rw [RL _ (Nat.mod_lt _ (by decide))]
theorem Fe (n : Nat) : 0 < (dig n).length := by unfold dig; rw [List.length_map]; exact Nat.length_toDigits_pos
theorem uW {k n : Nat} (hk : 1 ≤ k) (hn : n < 10 ^ k) : (dig n).length ≤ k := by unfold dig; rw [List.length_map]; exact toDigits_len_pow (by decide) hk hn
theorem RM (n : Nat) : (dig n).all inF = true := by
 induction n using Nat.strongRecOn with
 | _ n ih =>
   by_cases h : n < 10
   · rw [KZ h, List.all_cons, (qY _).mpr ⟨by omega, by omega⟩]; rfl
   · rw [Qx (by omega), List.all_append, ih (n / 10) (by omega), List.all_cons, (qY _).mpr ⟨by omega, by have := Nat.mod_lt n (show 0 < 10 by decide); omega⟩]; rfl
theorem RN (n : Nat) : val (dig n) = n := by
 induction n using Nat.strongRecOn with
 | _ n ih =>
   by_cases h : n < 10
   · rw [KZ h]; show (0 : Int) * 10 + ((48 + n - 48 : Nat) : Int) = n; omega
   · rw [Qx (by omega), Gg, ih (n / 10) (by omega)]; omega
theorem Nz {n : Nat} (h : n ≠ 0) : ∃ c r, dig n = c :: r ∧ 49 ≤ c ∧ c ≤ 57 := by
 induction n using Nat.strongRecOn with
 | _ n ih =>
   by_cases h10 : n < 10
   · exact ⟨_, _, KZ h10, by omega, by omega⟩
   · obtain ⟨c, r, e, h1, h2⟩ := ih (n / 10) (by omega) (by omega)
     exact ⟨c, r ++ [48 + n % 10], by rw [Qx (by omega), e]; rfl, h1, h2⟩
theorem mK {n c : Nat} (h : c ∈ dig n) : 48 ≤ c ∧ c ≤ 57 := (qY c).mp (List.all_eq_true.mp (RM n) c h)
theorem NB : dig 0 = [48] := KZ (by decide)
def cj (i : Int) : List Nat := if i < 0 then 45 :: dig i.natAbs else dig i.natAbs
theorem Qy (i : Int) : cd ((toString i : String) : Str) = cj i := by
 show (Str.ofString (toString i)).cps.toList = _
 rw [signs_ofString]
 unfold cj
 cases i with
 | ofNat m =>
   rw [if_neg (show ¬ Int.ofNat m < 0 from by have : Int.ofNat m = (m : Int) := rfl; omega)]
   show (Nat.repr m).toList.map Char.toNat = _
   rw [Nat.toList_repr]; rfl
 | negSucc m =>
   rw [if_pos (Int.negSucc_lt_zero m)]
   have : (toString (Int.negSucc m)) = "-" ++ Nat.repr (m + 1) := rfl
   rw [this, String.toList_append, Nat.toList_repr]; rfl
theorem VR (i : Int) : yh (cj i) = dig i.natAbs := by
 unfold cj
 split
 · rfl
 · unfold yh
   rw [if_neg]
   obtain ⟨c, r, e⟩ : ∃ c r, dig i.natAbs = c :: r := by
     cases h : dig i.natAbs with
     | nil => have := Fe i.natAbs; rw [h] at this; cases this
     | cons c r => exact ⟨c, r, rfl⟩
   intro z
   have hc := mK (n := i.natAbs) (c := c) (by rw [e]; simp)
   rw [e] at z
   have : c = 45 := by simpa using z
   omega
theorem Ys (i : Int) : cj i ≠ [] := by
 unfold cj
 split
 · simp
 · intro z; have := Fe i.natAbs; rw [z] at this; cases this
theorem Gj {i : Int} {c : Nat} (h : c ∈ cj i) : c = 45 ∨ (48 ≤ c ∧ c ≤ 57) := by
 unfold cj at h
 split at h
 · rcases List.mem_cons.mp h with e | e
   · exact .inl e
   · exact .inr (mK e)
 · exact .inr (mK h)
theorem Qz (i : Int) : qZ (cj i) = cj i := JZ fun c hc => by rcases Gj hc with e | e <;> omega
theorem Tz {i : Int} {most : Int} (h1 : 1 ≤ most) (h : ((dig i.natAbs).length : Int) ≤ most) : fM (cj i) most = some i := by
 have e := VR i
 unfold fM
 rw [e, if_neg]
 · congr 1
   rw [RN]
   unfold cj
   by_cases hi : i < 0
   · rw [if_pos hi]
     rw [if_pos (show (45 :: dig i.natAbs).take 1 = [45] from rfl)]; omega
   · rw [if_neg hi, if_neg]
     · omega
     · intro z
       obtain ⟨c, r, ec⟩ : ∃ c r, dig i.natAbs = c :: r := by
         cases h : dig i.natAbs with
         | nil => have := Fe i.natAbs; rw [h] at this; cases this
         | cons c r => exact ⟨c, r, rfl⟩
       have hc := mK (n := i.natAbs) (c := c) (by rw [ec]; simp)
       rw [ec] at z
       have : c = 45 := by simpa using z
       omega
 · intro z
   rcases z with z | z | z | z
   · have := Fe i.natAbs; omega
   · omega
   · by_cases h0 : i.natAbs = 0
     · have : i = 0 := by omega
       subst this
       exact z.2 (by show (if (0:Int) < 0 then _ else _) = _; rw [if_neg (by decide)]; exact NB)
     · obtain ⟨c, r, ec, hc, _⟩ := Nz h0
       rw [ec] at z
       have : c = 48 := by simpa using z.1
       omega
   · rw [RM] at z; cases z
theorem NK {i : Int} (h : i.natAbs < 10 ^ 60) : fM (cj i) 60 = some i := Tz (by decide) (by have := uW (k := 60) (by decide) h; omega)
end L2
namespace L2
open PySem PySem.Spec PyProof.Rows PySem.Calls
section
variable {X : Cx}
end
theorem lk0 {f a b : Str} {v w : V} (h1 : (f == a) = false) (h2 : (f == b) = false) : ([(a, v), (b, w)] : List (Str × V)).lookup f = none := by
 rw [List.lookup_cons, h1, List.lookup_cons, h2]; rfl
theorem lk1 {a : Str} {v : V} {r : List (Str × V)} : ((a, v) :: r).lookup a = some v := by rw [List.lookup_cons, beq_self_eq_true]
theorem lk2 {a b : Str} {v w : V} (h : (b == a) = false) {r : List (Str × V)} : ((a, v) :: (b, w) :: r).lookup b = some w := by rw [List.lookup_cons, h]; exact lk1
theorem V0 {c : Bool} {A B : Prop} (h : c = false) (q : B) : if c = true then A else B := by subst h; exact aM q
theorem aaZ {c : Bool} {A B : Prop} (h : c = true) (q : A) : if c = true then A else B := by subst h; exact cQ q
structure Thing (K : PySem.W.Frag) (H : Hp) (x : V) where
 t : Value
 bi : Bool
 bb : Bool
 bs : Bool
 ty : Uw K H x t
 ki : PySem.W.kitOne K t (.type "int") = some bi
 kb : PySem.W.kitOne K t (.type "bool") = some bb
 ks : PySem.W.kitOne K t (.type "str") = some bs
 hi : (bi && !bb) = true → ∃ n, x = .int n
 hs : bs = true → ∃ z, x = .str z
 ni : ∀ n, x = .int n → (bi && !bb) = true
 ns : ∀ z, x = .str z → bs = true
 hbl : bb = true → ∃ b, x = .bl b
 nbl : ∀ b, x = .bl b → bb = true
theorem aB.aa0 {K : PySem.W.Frag} {H H' : Hp} {a : Addr} {xs : List V} (e : aB H H') (h : lG K H a xs) : lG K H' a xs := by
 rcases h with h | h
 · exact .inl (h.imp (fun k => e _ _ k) (fun ⟨o, k⟩ => ⟨o, e _ _ k⟩))
 · exact .inr h
theorem aB.aec {K : PySem.W.Frag} {H H' : Hp} {x : V} {t : Value} (e : aB H H') (h : Uw K H x t) : Uw K H' x t := by
 cases h with
 | old h => exact .old (e.ty h)
 | exc h c => exact .exc (e _ _ h) c
 | tpl h => exact .tpl (e.aa0 h)
def Thing.same {K : PySem.W.Frag} {H H' : Hp} {x : V} (h : Thing K H x) (e : aB H H') : Thing K H' x := ⟨h.t, h.bi, h.bb, h.bs, e.aec h.ty, h.ki, h.kb, h.ks, h.hi, h.hs, h.ni, h.ns, h.hbl, h.nbl⟩
theorem aB.upd {H H' : Hp} {p : Addr} {o : HO} (e : aB H H') (h : H p = none ∨ H p = some o) : aB H (L2.upd H' p o) := fun b u q => by
 by_cases z : b = p
 · subst z
   rcases h with h | h
   · rw [h] at q; cases q
   · rw [h] at q; rw [zD]; exact q
 · rw [zP z]; exact e b u q
def jE : Option Int → V
 | some n => .int n
 | none => .non
end L2
namespace L2
open PySem PySem.Spec PyProof.Rows
theorem str_is (n : Int) : ((toString n : String) : Str) = S (cj n) := yY (Qy n)
theorem Yt {n : Int} (h : n.natAbs < 10 ^ 60) : bN 61 (S (cj n)) := by rw [← str_is]; exact bN.int (by decide) h
theorem RP {m : Int} (h : m.natAbs < 10 ^ 61) : m.natAbs.log2 < 1920 := by
 by_cases h0 : m.natAbs = 0
 · rw [h0]; decide
 · exact (Nat.log2_lt h0).mpr (Nat.lt_trans h (by symm))
end L2
namespace L2
open PySem PySem.Spec PyProof.Rows PySem.Calls
theorem K1 {X : Cx} {e : Expr} {te te' : TE} (h : PE X e te') (h2 : te' = te) : PE X e te := h2 ▸ h
section
variable {X : Cx}
end
end L2
namespace L2
open PySem PySem.Spec PyProof.Rows PySem.Calls
theorem snocInd {p : List Str → Prop} (l : List Str) (h0 : p []) (hs : ∀ l v, p l → p (l ++ [v])) : p l := by
 have key : ∀ l : List Str, p l.reverse := fun l => by
   induction l with
   | nil => exact h0
   | cons a r ih => rw [List.reverse_cons]; exact hs _ _ ih
 have := key l.reverse
 rwa [List.reverse_reverse] at this
def stepT (σ : List Str) (v : Str) : List Str := if v ∈ σ then σ else σ ++ [v]
def gR (ws : List Str) : List Str := ws.foldl stepT []
theorem qb (ws : List Str) (v : Str) : gR (ws ++ [v]) = stepT (gR ws) v := by unfold gR; rw [List.foldl_append]; rfl
theorem J0 (σ : List Str) (v k : Str) : k ∈ stepT σ v ↔ k ∈ σ ∨ k = v := by
 unfold stepT
 split
 · constructor
   · exact .inl
   · rintro (h | h)
     · exact h
     · subst h; assumption
 · simp
theorem NP (ws : List Str) : ∀ k, k ∈ gR ws ↔ k ∈ ws := by
 refine snocInd (p := fun ws => ∀ k, k ∈ gR ws ↔ k ∈ ws) ws (fun k => Iff.rfl) fun l v ih k => ?_
 rw [qb, J0, ih k, List.mem_append, List.mem_singleton]
theorem NQ (ws : List Str) : (gR ws).length ≤ ws.length := by
 refine snocInd (p := fun ws => (gR ws).length ≤ ws.length) ws (Nat.le_refl _) fun l v ih => ?_
 rw [qb]; unfold stepT
 split <;> simp <;> omega
theorem QB (ws : List Str) : (gR ws).length = ws.length ↔ ws.Nodup := by
 refine snocInd (p := fun ws => (gR ws).length = ws.length ↔ ws.Nodup) ws (by simp [gR]) fun l v ih => ?_
 rw [qb, List.nodup_append]
 have hl := NQ l
 unfold stepT
 by_cases h : v ∈ gR l
 · rw [if_pos h]
   have h' := (NP l v).mp h
   constructor
   · intro e; simp at e; omega
   · intro ⟨_, _, d⟩; exact absurd rfl (d v h' v (by simp))
 · rw [if_neg h]
   have h' : v ∉ l := fun z => h ((NP l v).mpr z)
   simp only [List.length_append, List.length_singleton, Nat.add_right_cancel_iff, ih]
   constructor
   · intro e; exact ⟨e, by simp, fun a ha b hb z => by rw [List.mem_singleton.mp hb] at z; exact h' (z ▸ ha)⟩
   · exact fun ⟨e, _⟩ => e
theorem Gk (P : Program) (w : World) (z : Str) (t : Tok) : (strKind P w).is z (.str z t) = true := by
 show Value.isStrOf z (.str z t) = true
 simp [Value.isStrOf]
section
variable {prog : Program} {w : World} {A : Around} {R : Result → Shared → Prop} {I : Addr} {fp wr : List Addr} {G : Array GenState → Array GenState → Prop} {n : Nat} {P : Nat → Value → Prop} {St : Nat → Shared → Prop}
theorem TF (W : WalksS prog w A.in1 I fp wr G n P St) (S : Addr) (hSf : S ∉ fp) (ws : List Str) (hn : ws.length = n) (hval : ∀ i v, P i v → ∃ z t, v = .str z t ∧ ws[i]? = some z) (hb : n + 1 < scanBound) :
   ∀ (k i : Nat) (s : Shared), n - i = k → i ≤ n → St i s →
     s.heap.SetOf (strKind prog w) S (fun k' => decide (k' ∈ gR (ws.take i))) (gR (ws.take i)).length →
     (∀ s', Moved (S :: wr) G s s' → s'.heap.SetOf (strKind prog w) S (fun k' => decide (k' ∈ gR ws)) (gR ws).length → R (.ok (.ret .none)) s') →
     codeAny (model prog w) A (.builtin "set.update.loop" ⟨[.ref S, .ref I], []⟩) R s := by
 have hSw : S ∉ wr := fun h => hSf (W.sub _ h)
 have hsub : ∀ b ∈ wr, b ∈ S :: wr := fun b hb => List.mem_cons_of_mem _ hb
 intro k
 induction k with
 | zero =>
   intro i s hk hi hst hS hR
   have hin : i = n := by omega
   subst hin
   rw [← hn, List.take_length] at hS
   refine codeAny_builtin F.entry_set_update_loop ?_
   rw [Around.under_plainId F.plain_set_update_loop _]
   show wpAny _ A.in1 (pyNext (.ref I) >>= _) _ _ s
   refine wpAny_bind (W.done s _ _ hst fun s' hm => ?_)
   exact wpAny_pure (hR s' (hm.mono hsub) (by
     obtain ⟨o, es, ep, t, ho, rest⟩ := hS
     exact ⟨o, es, ep, t, hm.heap S _ hSw ho, rest⟩))
 | succ k ih =>
   intro i s hk hi hst hS hR
   have hlt : i < n := by omega
   refine codeAny_builtin F.entry_set_update_loop ?_
   rw [Around.under_plainId F.plain_set_update_loop _]
   show wpAny _ A.in1 (pyNext (.ref I) >>= _) _ _ s
   refine wpAny_bind (W.item i s _ _ hlt hst fun v s' hP hst' hm => ?_)
   obtain ⟨z, t, rfl, hz⟩ := hval i v hP
   obtain ⟨o, es, ep, tb, ho, rest⟩ := hS
   have hS' : s'.heap.SetOf (strKind prog w) S (fun k' => decide (k' ∈ gR (ws.take i))) (gR (ws.take i)).length := ⟨o, es, ep, tb, hm.heap S _ hSw ho, rest⟩
   show wpAny _ A.in1 (holding [Value.str z t] (setAdd S (.str z t)) >>= _) _ _ s'
   refine wpAny_bind (wpAny_holding ?_)
   unfold setAdd
   refine wpAny_holding ?_
   refine wpAny_bind ((strKind prog w).pyHash (k := z) (Gk _ _ _ _) ?_)
   have hroom : (gR (ws.take i)).length + 1 < scanBound := by have := NQ (ws.take i); rw [List.length_take] at this; omega
   refine wpAny_setAddHashed_of (knd := strKind prog w) (s := { s' with toks := s'.toks + 1 }) (Gk _ _ _ _) rfl hS' hroom fun h' hsb hS2 => ?_
   have et : ws.take (i + 1) = ws.take i ++ [z] := by rw [List.take_succ, hz]; rfl
   have hSi : h'.SetOf (strKind prog w) S (fun k' => decide (k' ∈ gR (ws.take (i + 1)))) (gR (ws.take (i + 1))).length := by
     refine SetOf_congr hS2 (fun k' => ?_) ?_
     · rw [et, qb, Bool.eq_iff_iff, decide_eq_true_iff, J0]
       simp only [Bool.or_eq_true, decide_eq_true_iff]
     · rw [et, qb]
       unfold stepT
       by_cases h : z ∈ gR (ws.take i)
       · rw [if_pos h, if_pos (decide_eq_true h)]
       · rw [if_neg h, if_neg (by simpa using h), List.length_append]; rfl
   refine wpAny_pure ⟨plainId_quiet F.plain_set_update_loop _, ih (i + 1) _ (by omega) hlt (W.frame _ s' _ _ hst' (Nat.le_succ _) fun b hb o e => ?_) hSi fun s'' hm'' hS'' => ?_⟩
   · rw [hsb.2 b (fun h : b = S => hSf (by rw [← h]; exact hb))]; exact e
   · refine hR s'' (Moved.trans W.gtrans ((hm.mono hsub).then_heap (Nat.le_succ _) fun b o hb e => ?_) hm'') hS''
     rw [hsb.2 b (fun h : b = S => hb (by rw [h]; exact List.mem_cons_self))]; exact e
end
section
variable {prog : Program} {w : World} {A : Around} {E : Value → Shared → Prop} {s : Shared}
end
def SetT (P : Program) (w : World) (a : Addr) (S : Str → Bool) (n : Nat) : HO := .ext fun h => h.SetOf (strKind P w) a S n
section
variable {X : Cx}
theorem Io : bL X (.builtin "len") (fun xs H Q => ∃ p S n, xs = [.ref p] ∧ H p = some (SetT X.prog X.w p S n) ∧ Q (.int (n : Nat)) H) := by
 intro pins s σ H xs us Q I r h
 obtain ⟨p, S, n, rfl, hp, q⟩ := h
 obtain ⟨u, rfl, ru⟩ := vals1 r
 cases ru
 obtain ⟨⟨o, es, ep, t, ho, hex, hd, _, _, hb, hf, e⟩, _⟩ := (show gr X.prog X.w H s.heap p (SetT X.prog X.w p S n) from I.hok p _ hp)
 subst e
 exact call_len_set ho hex hd hf (by unfold scanBound at hb; omega) ⟨.int es.size, H, I.tok _, ⟨_, rfl⟩, q⟩
end
end L2
namespace L2
open PySem PySem.Spec PyProof.Rows PySem.Calls
theorem J1 : ∀ (ws : List Str) (tk : Nat), Vals (ws.map V.str) (strsFrom tk ws)
 | [], _ => .nil
 | x :: r, tk => .cons ⟨tk, rfl⟩ (J1 r (tk + 1))
section
variable {X : Cx}
theorem NT : MtM X "str.split" (fun x vs H Q => ∃ z y, x = .str z ∧ vs = [.str y] ∧ 0 < y.length ∧ z.length ≤ 100000 ∧ ∀ l, H l = none → Q (.ref l) (upd H l (.lst ((Txt.split z y).map V.str)))) := by
 intro pins s σ H x vs v us Q I rx rv h
 obtain ⟨z, y, rfl, rfl, hy, hz, q⟩ := h
 obtain ⟨t, rfl⟩ := rx
 obtain ⟨u, rfl, ⟨t', rfl⟩⟩ := rv.one
 have hy' : (y.length == 0) = false := by rw [beq_eq_false_iff_ne]; omega
 have hle := split_le z y
 have hsz : (Txt.split z y).length ≤ sizeLine := by rw [sizeLine_eq]; omega
 have hzs : z.length ≤ sizeLine := by rw [sizeLine_eq]; omega
 have q := q _ (I.hok.fresh (Nat.le_refl _))
 have fin : ∀ (its : List Value) (tk : Nat), Vals ((Txt.split z y).map V.str) its → EP X pins σ Q (.ref s.heap.objs.size) { s with toks := tk, heap := s.heap.push { cls := .type "list", data := .seq its.toArray } } := fun its tk r =>
   ⟨.ref s.heap.objs.size, _, I.laid (t' := tk) (a := s.heap.objs.size) (fun b o e => Heap.get?_push_of_some _ e) (Nat.le_refl _) (show gr X.prog X.w _ _ _ (.lst ((Txt.split z y).map V.str)) from ⟨by rw [List.length_map]; exact hsz, its, _, r, Heap.get?_push_size _ rfl⟩), rfl, q⟩
 cases h1 : (decide (z.length < y.length) || decide (Builtin.Str.strKind z < Builtin.Str.strKind y)) with
 | true =>
   have e : Txt.split z y = [z] := if_pos h1
   exact call_meets PySem.F.slot_str_split (typeIs_str _ _ _) PySem.F.entry_str_split (PySem.F.args_str_split_2 _ _) (meets_str_split_cannot_occur z y t t' h1) (fin [.str z t] _ (by rw [e]; exact .cons ⟨t, rfl⟩ .nil))
 | false =>
   cases hf : (Builtin.Str.occurrences z y 0 z.length (z.length + 1)).isEmpty with
   | true =>
     have e : Txt.split z y = [z] := (if_neg (ne_true_of_eq_false h1)).trans (if_pos hf)
     exact call_meets PySem.F.slot_str_split (typeIs_str _ _ _) PySem.F.entry_str_split (PySem.F.args_str_split_2 _ _) (meets_str_split_not_found z y t t' h1 hy' hf) (fin [.str z t] _ (by rw [e]; exact .cons ⟨t, rfl⟩ .nil))
   | false =>
     have e : Txt.split z y = Builtin.Str.partsBetween z (Builtin.Str.occurrences z y 0 z.length (z.length + 1)) y.length := (if_neg (ne_true_of_eq_false h1)).trans (if_neg (ne_true_of_eq_false hf))
     refine call_meets PySem.F.slot_str_split (typeIs_str _ _ _) PySem.F.entry_str_split (PySem.F.args_str_split_2 _ _) (meets_str_split_sep z y t t' h1 hy' hf hzs (by rw [← e]; exact hsz)) (fin _ _ ?_)
     rw [e]; exact J1 _ _
end
theorem TQ : ∀ {a b : List (List Nat)}, a ≠ [] → b ≠ [] → (∀ p ∈ a, 32 ∉ p) → (∀ p ∈ b, 32 ∉ p) → aR [32] a = aR [32] b → a = b := by
 have cut : ∀ {x y u v : List Nat}, 32 ∉ x → 32 ∉ y → x ++ 32 :: u = y ++ 32 :: v → x = y ∧ u = v := by
   intro x
   induction x with
   | nil =>
     intro y u v hx hy e
     cases y with
     | nil => exact ⟨rfl, (List.cons.inj e).2⟩
     | cons b r => exact absurd (by rw [show b = 32 from (List.cons.inj e).1.symm]; simp) hy
   | cons a x ih =>
     intro y u v hx hy e
     cases y with
     | nil => exact absurd (by rw [show a = 32 from (List.cons.inj e).1]; simp) hx
     | cons b r =>
       have h := List.cons.inj e
       obtain ⟨h1, h2⟩ := ih (fun z => hx (List.mem_cons_of_mem _ z)) (fun z => hy (List.mem_cons_of_mem _ z)) h.2
       exact ⟨by rw [h.1, h1], h2⟩
 intro a
 induction a with
 | nil => intro b h; exact absurd rfl h
 | cons x r ih =>
   intro b _ hb ha hbb e
   cases b with
   | nil => exact absurd rfl hb
   | cons y s =>
     have fx := ha x (by simp)
     have fy := hbb y (by simp)
     cases r with
     | nil =>
       cases s with
       | nil => exact congrArg (· :: []) e
       | cons y2 s =>
         have e' : x = y ++ [32] ++ aR [32] (y2 :: s) := e
         exact absurd (by rw [e']; simp) fx
     | cons x2 r =>
       cases s with
       | nil =>
         have e' : x ++ [32] ++ aR [32] (x2 :: r) = y := e
         exact absurd (by rw [← e']; simp) fy
       | cons y2 s =>
         have e' : x ++ [32] ++ aR [32] (x2 :: r) = y ++ [32] ++ aR [32] (y2 :: s) := e
         rw [List.append_assoc, List.append_assoc] at e'
         obtain ⟨h1, h2⟩ := cut fx fy e'
         have := ih (b := y2 :: s) (by simp) (by simp) (fun p hp => ha p (List.mem_cons_of_mem _ hp)) (fun p hp => hbb p (List.mem_cons_of_mem _ hp)) h2
         rw [h1, this]
def cR (l : List Nat) : List (List Nat) := (Txt.split (S l) (S [32])).map cd
theorem NZ {l p : List Nat} (h : p ∈ cR l) : 32 ∉ p := by
 obtain ⟨z, hz, rfl⟩ := List.mem_map.mp h
 exact StrLaws.split_free (S l) 32 z hz
theorem J2 (l : List Nat) : cR l ≠ [] := by
 intro e
 have := split_pos (S l) (S [32])
 have e2 := congrArg List.length e
 unfold cR at e2
 rw [List.length_map] at e2
 rw [e2] at this; cases this
theorem Cp (l : List Nat) : aR [32] (cR l) = l := by
 have e := StrLaws.join_split (S l) (S [32])
 rw [← StrLaws.glued_eq_join] at e
 have e2 := pZ (S [32]) (Txt.split (S l) (S [32]))
 rw [show FZ (S [32]) (Txt.split (S l) (S [32])) = S l from e] at e2
 exact (ZF e2).symm
theorem uX {ws : List (List Nat)} (h : ws ≠ []) (hf : ∀ p ∈ ws, 32 ∉ p) : cR (aR [32] ws) = ws :=
 TQ (J2 _) h (fun _ hp => NZ hp) hf (Cp _)
theorem N5 (z : Str) : Txt.split z (S [32]) = (cR (cd z)).map S := by
 unfold cR
 rw [List.map_map, fL]
 have : (S ∘ cd) = id := funext fun x => fL x
 rw [this, List.map_id]
theorem QC {l : List Nat} (h : 32 ∉ l) : cR l = [l] := by
 have := uX (ws := [l]) (by simp) (by simpa using h)
 exact this
end L2
namespace HT
open PySem PySem.Spec PyProof.Rows PySem.Calls
section
variable {prog : Program} {w : World} {A : Around} {E : Value → Shared → Prop} {s : Shared}
end
end HT
namespace L2
open PySem PySem.Spec PyProof.Rows PySem.Calls
section
variable {X : Cx}
end
end L2
namespace L2
open PySem PySem.Spec PyProof.Rows PySem.Calls
def Yu (X : Cx) (e : Expr) (t : TE) : Prop :=
 ∀ (pins : List (Addr × Obj)) (s : Shared) (σ : St) (H : Hp) (Q : VK), Inv X pins σ H s → 1 ≤ s.toks → t σ H Q → wpAny (model X.prog X.w) X.A (eval e X.env) (EP X pins σ Q) X.xe s
def Yv (X : Cx) (st : Stmt) (t : TS) : Prop :=
 ∀ (pins : List (Addr × Obj)) (s : Shared) (σ : St) (H : Hp) (D : Ends), Inv X pins σ H s → 1 ≤ s.toks → t D σ H → wpAny (model X.prog X.w) X.A (exec st X.env) (SP X pins D) X.xe s
def wF (X : Cx) (st : List Stmt) (t : TS) : Prop :=
 ∀ (pins : List (Addr × Obj)) (s : Shared) (σ : St) (H : Hp) (D : Ends), Inv X pins σ H s → 1 ≤ s.toks → t D σ H → wpAny (model X.prog X.w) X.A (execs st X.env) (SP X pins D) X.xe s
def PAp (X : Cx) (es : List Expr) (t : TA) : Prop :=
 ∀ (pos : Pos) (pins : List (Addr × Obj)) (s : Shared) (σ : St) (H : Hp) (Q : List V → Hp → Prop), Inv X pins σ H s → 1 ≤ s.toks → t σ H Q → wpAny (model X.prog X.w) X.A (spliced (backTo pos (starEach es X.env))) (AP X pins σ Q) X.xe s
theorem Ux {α : Type} {t : Sem α} {Q Q' : α → Shared → Prop} {M : Model} {A : Around} {E : Value → Shared → Prop} {s : Shared} {n : Nat} (hn : n ≤ s.toks) (h : wpAny M A t Q E s) (hQ : ∀ a s, n ≤ s.toks → Q a s → Q' a s) : wpAny M A t Q' E s := wpAny_mono (wpAny_toks_of hn h) (fun a s z => hQ a s z.1 z.2) fun _ _ z => z.2
section
variable {X : Cx} {e : Expr} {te : TE} {pos : Pos} {st : Stmt} {rest : List Stmt} {t u : TS}
theorem PE.made (h : PE X e te) : Yu X e te := fun pins s σ H Q I _ q => h pins s σ H Q I q
theorem Yw (he : Yu X e te) : Yv X (.Return (some e) pos) (aaz te) := by
 intro pins s σ H D I hn h
 exact wpAny_Return_some (eY (he pins s σ H _ I hn h) fun v s1 ⟨x, H1, I1, r1, q1⟩ => ⟨x, σ, H1, I1, r1, q1⟩)
theorem Yx {i : Nat} {x : Str} {pos' : Pos} (hN : X.N.Nodup) (hi : X.N[i]? = some x) (hx : Loc X.env.scope x) (he : Yu X e te) (hs : swapsWith e (some (.Name x pos')) pos.line X.env = pure false := by rfl) (hf : X.fn x = true ∨ X.env.scope.names.lookup x = some .local := by first | exact .inl rfl | exact .inr rfl | assumption) :
   Yv X (.Assign [.Name x pos'] e pos) (S9 te (gf i)) := by
 intro pins s σ H D I hn h
 refine wpAny_Assign_Name (eY (he pins s σ H _ I hn h) fun v s1 ⟨y, H1, I1, r1, q1⟩ => ?_) hs
 exact tu I1 hN hi hx r1 (fun s2 I2 => ⟨_, H1, I2, q1⟩) hf
theorem J3 (h1 : Yv X st t) (h2 : jG X rest u) : wF X (st :: rest) (U0 t u) := by
 intro pins s σ H D I hn h
 refine wpAny_execs_cons (eY (h1 pins s σ H { D with nx := u D } I hn h) fun f s1 q => ?_)
 cases f with
 | next =>
   obtain ⟨σ', H', I', q⟩ := q
   exact h2 pins s1 σ' H' D I' q
 | ret v => exact q
 | brk => exact q
 | cont => exact q
theorem V1 (h1 : Yv X st t) : wF X [st] t := by
 intro pins s σ H D I hn h
 refine wpAny_execs_cons (eY (h1 pins s σ H D I hn h) fun f s1 q => ?_)
 cases f with
 | next => exact wpAny_execs_nil q
 | ret v => exact q
 | brk => exact q
 | cont => exact q
theorem Cq {o : Expr} {to : TE} {a b : Str} {ka kb : Nat} {apos cpos pa pb : Pos} (ho : Yu X o to) (hab : (a == b) = false := by symm)
   (hbase : attributeBase o "replace" X.env (eval o X.env) = eval o X.env := by rfl)
   (hfew : ((backTo cpos (starEach [.Constant (.str a) ka pa, .Constant (.str b) kb pb] X.env)).all (fun x => !x.1) && (backToKw cpos (keywordEach [] X.env)).all (fun x => x.1.isSome)
     && decide ([Expr.Constant (.str a) ka pa, .Constant (.str b) kb pb].length + ([] : List Keyword).length + (if ([] : List Keyword).isEmpty then 0 else 1) < 30)) = true := by rfl)
   (hline : (apos.endLine == cpos.line) = true := by rfl)
   (hs : backTo cpos (starEach [.Constant (.str a) ka pa, .Constant (.str b) kb pb] X.env) = [(false, eval (.Constant (.str a) ka pa) X.env), (false, eval (.Constant (.str b) kb pb) X.env)] := by rfl) :
   Yu X (.Call (.Attribute o "replace" apos) [.Constant (.str a) ka pa, .Constant (.str b) kb pb] [] cpos) (fun σ H Q => to σ H fun v H1 => ∃ z, v = .str z ∧ z.length + (z.length + 1) * b.length ≤ 16777216 ∧ Q (.str (Txt.replace z a b)) H1) := by
 intro pins s σ H Q I hn h
 refine wpAny_Call_method_late hbase hfew hline rfl (Ux hn (ho pins s σ H _ I hn h) fun v s1 hn1 ⟨x, H1, I1, r1, z, ex, hz, q⟩ => ?_)
 subst ex
 obtain ⟨tk, rfl⟩ := r1
 refine ⟨"str", _, PySem.F.plainAttrs_str, PySem.F.slot_str_replace, PySem.F.type_str_replace, typeIs_str _ _ _, (fun _ e => nomatch e), ?_⟩
 rw [hs]
 refine Calls.callWith_builtin rfl (Calls.evalArgs_plain (Calls.spliced_cons (Calls.Constant_str (Calls.spliced_cons (Calls.Constant_str (Calls.spliced_nil ?_))))))
 refine SC.replace (by show s1.toks ≠ 0; omega) (by show s1.toks + 1 ≠ 0; omega) (by show s1.toks ≠ s1.toks + 1; omega) hab hz ?_
 intro t' k
 exact ⟨.str _, H1, I1.tok _, ⟨_, rfl⟩, q⟩
end
structure qd (P : Program) (w : World) (K : PySem.W.Frag) (mg : Str → Option Value) (base : Heap) (CX : Ez) (k : Nat) (f : Addr) (fd : FuncData) (ps : List Str) (sp : Sp) : Prop where
 len : ∀ vs H Q E, sp vs H Q E → vs.length = ps.length
 run : ∀ (A : Around) (outer : List Env) (s : Shared) (H : Hp) (args : Args) (us : List Value) (vs : List V) (Q : VK) (E : XK), fK k A → Fy P w K mg base A outer s H → 1 ≤ s.toks → BindsTo s fd args (ps.zip us) → Vals vs us → sp vs H Q E →
   codeAny (model P w) A (.call (.ref f) args) (CR CX outer P w H s Q E) s
theorem qd.mono {P : Program} {w : World} {K : PySem.W.Frag} {mg : Str → Option Value} {base : Heap} {CX : Ez} {j k : Nat} {f : Addr} {fd : FuncData} {ps : List Str} {sp : Sp} (F : qd P w K mg base CX j f fd ps sp) (h : j ≤ k) :
   qd P w K mg base CX k f fd ps sp := ⟨F.len, fun A outer s H args us vs Q E hr => F.run A outer s H args us vs Q E (hr.mono h)⟩
theorem aa1 {CX : Ez} {P : Program} {w : World} {K : PySem.W.Frag} {mg : Str → Option Value} {base : Heap} {k : Nat} {f : Addr} {name qual : Str} {params : Arguments} {body : List Stmt} {scope : Scope} {dV kV doc pm cdv ct oc : Value} {an od : Option Addr}
   {osl : Array (Option Value)} {N ps : List Str} {sp : Sp} (lk : K.lookup f = some ⟨oc, od, .func (PySem.W.fnOf name qual params body scope dV kV doc pm an cdv ct), osl⟩) (hcd : PySem.W.codeIn K cdv qual = true) (S : aq N ps scope)
   (len : ∀ vs H Q E, sp vs H Q E → vs.length = ps.length)
   (hbody : ∀ (A : Around) (outer : List Env) (s : Shared) (H : Hp) (vs : List V) (Q : VK) (E : XK), fK k (A.deeper (envOfC qual scope s.heap.objs.size f cdv)) → sp vs H Q E →
     ∃ t, wF (jD CX P w K mg base N qual scope f cdv A outer s H E) body t ∧ t { nx := fun _ H' => Q .non H', rt := Q } (start N vs) H) :
   qd P w K mg base CX (k + 1) f (PySem.W.fnOf name qual params body scope dV kV doc pm an cdv ct) ps sp := by
 refine ⟨len, fun A outer s H args us vs Q E hr e0 hn hb r hsp => ?_⟩
 have hl := len _ _ _ _ hsp
 have KX : K.In s.heap := e0.mod.Xw.keeps fun b o e => (e0.bs b o e).1
 have lim : s.heap.NoLimit := e0.mod.nolimit.keeps fun b o e => (e0.bs b o e).1
 have hkind : ∀ y ∈ ps.zip us, scope.names.lookup y.1 = some .local ∨ (scope.names.lookup y.1 = some .cell ∧ ((cellsFrom (s.heap.objs.size + 1) scope.names []).lookup y.1).isSome = true) := fun ⟨n, v⟩ hy => by
   rcases S.par n (List.of_mem_zip hy).1 with q | q
   · exact .inl q
   · exact .inr ⟨q, PySem.W.cellsFrom_some _ _ _ (.inl q)⟩
 refine codeAny_call_function hr.depth (KX _ _ lk) rfl S.co S.gen rfl (PySem.W.codeRec_of KX hcd) (hb _ _ _ _ ?_)
 refine wpAny_with_toks hn (wpAny_newFunctionEnv_cells S.kind hkind fun env he s1 x hn1 => ?_)
 subst he
 refine ⟨lim.keeps x.toInCall.keep, codeAny_func ?_⟩
 obtain ⟨t, ht, hq⟩ := hbody A outer s H vs Q E (hr.deeper _) hsp
 have I : Inv (jD CX P w K mg base N qual scope f cdv A outer s H E) [] (start N vs) H s1 := JR S hr.hd e0 hl r x
 refine wpAny_mono (ht [] s1 (start N vs) H _ I hn1 hq) (fun fl s' hs => ?_) fun e s' hs => hs
 have fin : ∀ {σ' : St} {H' : Hp} {v : V} {u : Value}, Inv (jD CX P w K mg base N qual scope f cdv A outer s H E) [] σ' H' s' → RelV v u → Q v H' → CE outer P w H s Q u s' :=
   fun {σ' H' v u} J rv q => ⟨v, H', J.os, J.bare, J.base, J.hok, rv, q⟩
 cases fl with
 | ret u =>
   obtain ⟨v, σ', H', J, rv, q⟩ := hs
   exact fin J rv q
 | next =>
   obtain ⟨σ', H', J, q⟩ := hs
   exact fin (v := V.non) (u := Value.none) J rfl q
 | brk =>
   obtain ⟨_, _, _, q⟩ := hs
   exact False.elim q
 | cont =>
   obtain ⟨_, _, _, q⟩ := hs
   exact False.elim q
theorem wF.Mv {X : Cx} {b : List Stmt} {t : TS} (h : wF X.Mv b t) : wF X b t := fun pins s σ H D I hn hw =>
 wpAny_mono (h pins s σ H D (I.wish _) hn hw) (fun _ _ q => q.lH) fun _ _ z => False.elim z
section
variable {P : Program} {w : World} {K : PySem.W.Frag} {mg : Str → Option Value} {base : Heap}
theorem gq.okP {x qual : Str} {st : Stmt} {f : Addr} {fd : FuncData} {N ps : List Str} {k : Nat} {sp : Sp} (F : gq K x qual st f fd) (S : aq N ps (aa st)) (len : ∀ vs H Q E, sp vs H Q E → vs.length = ps.length)
   (hbody : ∀ (cdv : Value) (A : Around) (outer : List Env) (s : Shared) (H : Hp) (vs : List V) (Q : VK) (E : XK), fK k (A.deeper (envOfC qual (aa st) s.heap.objs.size f cdv)) → sp vs H Q E →
     ∃ t, wF (jD cD P w K mg base N qual (aa st) f cdv A outer s H E).Mv (aj st) t ∧ t { nx := fun _ H' => Q .non H', rt := Q } (start N vs) H) : qd P w K mg base cD (k + 1) f fd ps sp := by
 obtain ⟨oc, od, kV, doc, pm, an, cdv, ct, osl, rfl, lk, hcd⟩ := F.ex
 refine aa1 lk hcd S len fun A outer s H vs Q E hr hsp => ?_
 obtain ⟨t, h, q⟩ := hbody cdv A outer s H vs Q E hr hsp
 exact ⟨t, h.Mv, q⟩
structure apn (P : Program) (w : World) (K : PySem.W.Frag) (mg : Str → Option Value) (base : Heap) (CX : Ez) (k : Nat) (C : Addr) (m : Str) where
 f : Addr
 fd : FuncData
 ps : List Str
 sp : Sp
 ds : List Value
 nu : List V
 c : uU K C
 hm : Meth K C m f
 F : qd P w K mg base CX k f fd ps sp
 hb : Binds K fd ps ds
 hd : Vals nu ds
end
section
variable {X : Cx} {CX : Ez} {k : Nat} {E : XK} {m x : Str} {p pos apos : Pos} {e o : Expr} {es : List Expr} {ta te : TE} {t : TA} {f : Addr} {fd : FuncData} {ps : List Str} {ds : List Value} {nu : List V} {sp : Sp}
theorem Yy {pins : List (Addr × Obj)} {σ : St} {H : Hp} {s : Shared} {Q : VK} {us : List Value} {vs : List V} (F : qd X.prog X.w X.K X.mg X.base CX k f fd ps sp) (hr : fK k X.A) (hb : Binds X.K fd ps ds) (hd : Vals nu ds) (hx : Passes CX X E)
   (I : Inv X pins σ H s) (hn : 1 ≤ s.toks) (r : Vals vs us) (h : sp (vs ++ nu) H Q E) : wpAny (model X.prog X.w) X.A (call (.ref f) us) (EP X pins σ Q) X.xe s := by
 have r2 : Vals (vs ++ nu) (us ++ ds) := r.append hd
 have hl : (us ++ ds).length = ps.length := by rw [← r2.length]; exact F.len _ _ _ _ h
 refine wpAny_call (codeAny_mono (F.run X.A X.stack s H ⟨us, []⟩ (us ++ ds) (vs ++ nu) Q E hr I.env0 hn (hb s us I.Ew hl) r2 h) fun r s' hq => ?_)
 cases r with
 | error e => exact hx pins σ H s e s' I hq
 | ok fl =>
   cases fl with
   | ret u => exact I.after hq
   | next => exact False.elim hq
   | brk => exact False.elim hq
   | cont => exact False.elim hq
theorem N6 (F : qd X.prog X.w X.K X.mg X.base CX k f fd ps sp) (hr : fK k X.A) (hg : Gl X x) (hm : X.mg x = some (.ref f)) (hk : PySem.W.keepIn X.K (.ref f) = true) (hb : Binds X.K fd ps ds) (hd : Vals nu ds) (hx : Passes CX X E)
   (ha : PA X (e :: es) t) (hdb : (x == ("__debug__" : Str)) = false := by decide) (he : starEach (e :: es) X.env = (false, eval e X.env) :: starEach es X.env := by rfl) (hpl : (backTo pos (starEach es X.env)).any (·.1) = false := by rfl) :
   Yu X (.Call (.Name x p) (e :: es) [] pos) (Vd sp nu E t) := by
 intro pins s σ H Q I hn h
 refine wpAny_Call_Name_kw (mG I hg hm ?_ hdb)
 refine PySem.W.callWith_K (h₀ := X.base) I.ok.mod.Xw hk (Ux hn (ha pos pins s σ H _ I h) fun us s1 hn1 ⟨vs, H1, I1, r, q⟩ => ⟨I1.Ew, ?_⟩) he hpl
 exact Yy F hr hb hd hx I1 hn1 r q
def PEm (X : Cx) (e : Expr) (t : TE) : Prop :=
 ∀ (pins : List (Addr × Obj)) (s : Shared) (σ : St) (H : Hp) (Q : VK), Inv X pins σ H s → t σ H Q → wpAny (model X.prog X.w) X.A (eval e X.env) (fun u s' => 1 ≤ s'.toks ∧ EP X pins σ Q u s') X.xe s
end
end L2
namespace L2
open PySem PySem.Spec PyProof.Rows PySem.Calls
def Yz (X : Cx) (ifs : List Expr) (t : TT) : Prop :=
 ∀ (pins : List (Addr × Obj)) (s : Shared) (σ : St) (H : Hp) (Q : Bool → Hp → Prop), Inv X pins σ H s → t σ H Q →
   wpAny (model X.prog X.w) X.A (forIn ifs true fun c r => if r = true then do let ok ← isTrue c X.env (eval c X.env); pure (ForInStep.yield ok) else pure (ForInStep.yield r)) (TP X pins σ Q) X.xe s
def ZL : TT := fun _ H Q => Q true H
theorem V2 {X : Cx} : Yz X [] ZL := fun pins s σ H Q I h => wpAny_pure ⟨H, I, h⟩
theorem K3 {prog : Program} {w : World} {A : Around} {R : Result → Shared → Prop} {s : Shared} {elt target iter : Expr} {ifs : List Expr} {scope : Scope} {pos : Pos} {it acc : Value} {env : Env} (I : Nat → Shared → Prop)
   (turn : ∀ n s, I n s → wpAny (model prog w) A (pyNext it) (fun r s₁ => match r with
     | none => R (.ok .next) s₁
     | some v => wpAny (model prog w) A (letOwnedTupleGo target it v) (fun _ s₂ => wpAny (model prog w) A (assign target env v) (fun _ s₃ =>
         wpAny (model prog w) A (forIn ifs true fun c r => if r = true then do let ok ← isTrue c env (eval c env); pure (ForInStep.yield ok) else pure (ForInStep.yield r)) (fun ok s₄ =>
           if ok = true then wpAny (model prog w) A (eval elt env) (fun x s₅ =>
             wpAny (model prog w) A (call (.builtin "list.append") [acc, x]) (fun _ s₆ => ∃ m, m < n ∧ I m s₆) (notedBy (model prog w) A env fun e s' => R (.error e) s') s₅)
             (notedBy (model prog w) A env fun e s' => R (.error e) s') s₄ else ∃ m, m < n ∧ I m s₄)
           (notedBy (model prog w) A env fun e s' => R (.error e) s') s₃) (notedBy (model prog w) A env fun e s' => R (.error e) s') s₂) (notedBy (model prog w) A env fun e s' => R (.error e) s') s₁)
     (notedBy (model prog w) A env fun e s' => R (.error e) s') s)
   (n : Nat) (h : I n s) : codeAny (model prog w) A (.compLoop (.ListComp elt [⟨target, iter, ifs, 0⟩] scope pos) 0 it acc env) R s := by
 refine codeAny_loop rfl I (fun n s hI => ?_) n h
 show wpAny _ A ((compTurn (.ListComp elt [⟨target, iter, ifs, 0⟩] scope pos) 0 it acc env).onRaise (fun x => do noteFrame x env; theTreesLotGoes x)) _ _ s
 refine wpAny_noted ?_
 rw [compTurn_list]
 refine wpAny_bind (wpAny_standAt (wpAny_bind (wpAny_mono (turn n s hI) (fun r s₁ h₁ => ?_) fun _ _ h' => h')))
 cases r with
 | none => exact wpAny_pure h₁
 | some v =>
   refine wpAny_bind (wpAny_mono h₁ (fun _ s₂ h₂ => wpAny_bind (wpAny_mono h₂ (fun _ s₃ h₃ => ?_) fun _ _ h' => h')) fun _ _ h' => h')
   refine wpAny_bind (wpAny_mono h₃ (fun ok s₄ h₄ => ?_) fun _ _ h' => h')
   cases ok with
   | false => exact wpAny_pure ⟨rfl, h₄⟩
   | true => exact wpAny_bind (wpAny_bind (wpAny_mono h₄ (fun x s₅ h₅ => wpAny_bind (wpAny_mono h₅ (fun _ s₆ h₆ => wpAny_pure (wpAny_pure ⟨rfl, h₆⟩)) fun _ _ h' => h')) fun _ _ h' => h'))
def gh (X : Cx) (scope : Scope) (C : Addr) (x y : Str) (M : List Str) (s₂ : Shared) (H₂ : Hp) (fp : List Addr) : Cx :=
 { X with N := x :: y :: M, s₀ := s₂, H₀ := H₂, env := compEnvC scope (iY X.env scope.names []) C X.env, outer := X.stack, ex := fp, fn := fun _ => false, pn := [], xe := fun _ _ => False }
structure uY (X : Cx) (scope : Scope) (x y : Str) (M : List Str) : Prop where
 base : cV X scope x M
 aed : scope.names.lookup y = some .local
 nd2 : (x :: y :: M).Nodup
theorem QD {X : Cx} {scope : Scope} {x y : Str} {M : List Str} (h : cV X scope x M) (h1 : scope.names.lookup y = some .local) (h2 : (x :: y :: M).Nodup) : uY X scope x y M := ⟨h, h1, h2⟩
section
variable {X : Cx} {scope : Scope} {x y : Str} {M : List Str} {pins : List (Addr × Obj)} {σ : St} {H₂ : Hp} {s₂ : Shared} {elt iter tg : Expr} {ifs : List Expr} {pos : Pos} {te : TE} {wi : TI} {g : TG} {tc : TT}
theorem TV (K : uY X scope x y M) (I : Inv X pins σ H₂ s₂) {fp : List Addr} (hf : ∀ b ∈ fp, lJ X pins H₂ b) (hfl : ∀ b ∈ fp, b < s₂.heap.objs.size) {C : Addr} (hC : s₂.heap.objs.size ≤ C) {h₁ : Heap} {t : Nat} {m : Str → Option Value} (hn : h₁.Ns C m)
   (hk : ∀ b o, s₂.heap.get? b = some o → h₁.get? b = some o) : Inv (gh X scope C x y M s₂ H₂ fp) [] (none :: none :: σ) H₂ { s₂ with heap := h₁, toks := t } := by
 have I1 := FN (t := t) K.base I hf hfl hC hn hk
 have ok : (gh X scope C x y M s₂ H₂ fp).Ok := by
   obtain ⟨a1, a2, a3, a4, a5, a6, a7, a8, a9, a10, a11, a12, a13, a14, a15, a16, a17, a18⟩ := I1.ok
   exact ⟨a1, a2, a3, a4, a5, a6, a7, a8, a9, a10, a11, a12, a13, a14, a15, a16, a17, a18⟩
 obtain ⟨m', ns', lo⟩ := I1.loc
 refine ⟨ok, I1.os, I1.bare, I1.base, ⟨m', ns', fun i z v e1 e2 e3 => ?_⟩, I1.cell, I1.free, I1.kY, I1.pin, I1.hok, ?_⟩
 · match i, e1, e2 with
   | 0, _, e2 => cases e2
   | 1, _, e2 => cases e2
   | j + 2, e1, e2 => exact lo (j + 1) z v e1 e2 e3
 · have := I1.len
   show (none :: none :: σ).length = (x :: y :: M).length
   have h2 : (none :: σ).length = (x :: M).length := this
   simp only [List.length_cons] at h2 ⊢
   omega
def aa2 (wi : TI) (g : TG) (tc : TT) (te : TE) : TE := fun σ H Q => wi σ H fun J H1 => ∃ (n : Nat) (W : Nat → List V → Hp → Prop), n ≤ sizeLine ∧ W 0 [] H1 ∧ ∀ i ys H, i ≤ n → ys.length ≤ i → W i ys H →
 (J.stop i H ∧ ∀ p, H p = none → Q (.ref p) (upd H p (.lst ys))) ∨ (J.go i H ∧ i < n ∧ ∀ x H', J.Qg i H x H' → ∀ u v, g x (u :: v :: σ) H' fun ρ H2 => (∃ u' v', ρ = u' :: v' :: σ) ∧ tc ρ H2 fun c H3 => if c = true then te ρ H3 fun z H4 => W (i + 1) (ys ++ [z]) H4 else W (i + 1) ys H3)
theorem N7 (K : uY X scope x y M) (hc : X.calm = true) (I : Inv X pins σ H₂ s₂) (hg : ∀ (C : Addr) (s₂ : Shared) (H₂ : Hp) (fp : List Addr), PG (gh X scope C x y M s₂ H₂ fp) tg g) (ht : ∀ (C : Addr) (s₂ : Shared) (H₂ : Hp) (fp : List Addr), Yz (gh X scope C x y M s₂ H₂ fp) ifs tc) (he : ∀ (C : Addr) (s₂ : Shared) (H₂ : Hp) (fp : List Addr), PE (gh X scope C x y M s₂ H₂ fp) elt te)
   {it : Addr} {fp : List Addr} {tn : Nat → Heap → Prop} {J : It} (T : Turn X.prog X.w X.K tg J fp it tn) (st : tn 0 s₂.heap) (hf : ∀ b ∈ fp, lJ X pins H₂ b) {n : Nat} (hsz : n ≤ sizeLine) {W : Nat → List V → Hp → Prop} {F : List V → Hp → Prop}
   (w0 : W 0 [] H₂) (turn : ∀ i ys H, i ≤ n → ys.length ≤ i → W i ys H → (J.stop i H ∧ F ys H) ∨ (J.go i H ∧ i < n ∧ ∀ x H', J.Qg i H x H' → ∀ u v, g x (u :: v :: σ) H' fun ρ H2 => (∃ u' v', ρ = u' :: v' :: σ) ∧ tc ρ H2 fun c H3 => if c = true then te ρ H3 fun z H4 => W (i + 1) (ys ++ [z]) H4 else W (i + 1) ys H3))
   {E : Value → Shared → Prop} {RR : Value → Addr → Result → Shared → Prop}
   (hRR : ∀ (D C : Addr) (s' : Shared) (H' : Hp) (ys : List V) (m : Str → Option Value), Inv X pins σ (upd H' D (.lst ys)) s' → H' D = none → lJ X pins (upd H' D (.lst ys)) C → s'.heap.Ns C m → F ys H' → RR (.ref D) C (.ok .next) s') :
   wpAny (model X.prog X.w) X.A (newList []) (fun acc s₃ => wpAny (model X.prog X.w) X.A (newFunctionEnv scope X.env.globals (iY X.env scope.names []) [] X.env.qual none .none (some X.env)) (fun cenv s₄ =>
     codeAny (model X.prog X.w) X.A (.compStart (.ListComp elt [⟨tg, iter, ifs, 0⟩] scope pos) 0 (.ref it) acc { cenv with scope := relabel scope X.env }) (RR acc cenv.locals) s₄) E s₃) E s₂ := by
 refine wpAny_newObj_type (wpAny_newFunctionEnv K.base.cell (by intro y hy; simp at hy) (fun h₁ hns₁ hsb₁ => ?_) K.base.kind)
 dsimp only at hns₁ hsb₁ ⊢
 generalize hH2 : s₂.heap.push { cls := .type "list", dict := none, data := .seq ([] : List Value).toArray } = H2 at hns₁ hsb₁ ⊢
 have hC : H2.objs.size = s₂.heap.objs.size + 1 := by rw [← hH2, Heap.size_push]
 have hDC : s₂.heap.objs.size ≠ H2.objs.size := by rw [hC]; exact Nat.ne_of_lt (Nat.lt_succ_self _)
 have below : ∀ b, b < s₂.heap.objs.size → b ≠ H2.objs.size ∧ b ≠ s₂.heap.objs.size := fun b hb => ⟨by rw [hC]; exact Nat.ne_of_lt (Nat.lt_succ_of_lt hb), Nat.ne_of_lt hb⟩
 have hfl : ∀ b ∈ fp, b < s₂.heap.objs.size := fun b hb => by obtain ⟨o, e, _⟩ := T.obj _ _ st b hb; exact Heap.lt_size e
 have old : ∀ b o, s₂.heap.get? b = some o → h₁.get? b = some o := fun b o e => hsb₁.extBut b o (below b (Heap.lt_size e)).1 (Heap.get?_push_of_some _ (hH2 ▸ Heap.get?_push_of_some _ e))
 have hacc : h₁.get? s₂.heap.objs.size = some { cls := .type "list", data := .seq ([] : List Value).toArray 0 } := hsb₁.extBut _ _ hDC (Heap.get?_push_of_some _ (hH2 ▸ Heap.get?_push_size _ rfl))
 generalize hCC : H2.objs.size = C at *
 generalize vK : s₂.heap.objs.size = D at *
 have hCle : s₂.heap.objs.size ≤ C := by rw [vK, hC]; exact Nat.le_succ _
 have st₁ : tn 0 h₁ := T.keep _ _ _ st fun b _ o e => old b o e
 have I₁ := TV (t := s₂.toks + ([] : List (Str × Value)).length) K I hf (fun b hb => by rw [vK]; exact hfl b hb) hCle hns₁ old
 generalize hX' : gh X scope C x y M s₂ H₂ fp = X' at I₁
 have eX : X'.prog = X.prog ∧ X'.w = X.w ∧ X'.K = X.K ∧ X'.calm = true ∧ X'.A = X.A ∧ X'.ex = fp ∧ X'.env = compEnvC scope (iY X.env scope.names []) C X.env ∧ X'.s₀ = s₂ ∧ X'.pn = [] := by
   subst hX'; exact ⟨rfl, rfl, rfl, hc, rfl, rfl, rfl, rfl, rfl⟩
 obtain ⟨eP, ew, eK, ec, eA, eex, Ax, Zz, Vn⟩ := eX
 have eL : X'.env.locals = C := by rw [Ax]; rfl
 have cells' : ∀ y c, X'.env.cells.lookup y = some c → X.env.cells.lookup y = some c := fun y c e => by rw [Ax] at e; exact cV.vJ e
 have efs : X'.fs = frs X.stack := by subst hX'; rfl
 have yc : ∀ b ∈ X'.fs, b = X.env.locals ∨ b ∈ X.fs := fun b hb => List.mem_cons.mp (I.sZ b (by rw [← efs]; exact hb))
 have FQ : ∀ {pn : List (Addr × Obj)} {H' : Hp}, (∀ p ∈ pn, p.1 = D) → (∀ b ∈ fp, H' b = none) → ∀ b ∈ fp, lJ X' pn H' b := fun {pn H'} hp hn b hb => by
   refine ⟨hn b hb, ?_, fun z => ?_, .inl (by rw [eex]; exact hb), fun y c e => (hf b hb).2.2.2.2.1 y c (cells' y c e), fun p hq => ?_⟩
   · rw [eL]; exact (below b (hfl b hb)).1
   · rcases yc b z with q | q
     · exact (hf b hb).2.1 q
     · exact (hf b hb).2.2.1 q
   · rw [Vn, List.nil_append] at hq
     rw [hp p hq]; exact Ne.symm (below b (hfl b hb)).2
 have Dfp : D ∉ fp := fun z => Nat.lt_irrefl _ (hfl D z)
 have Nf : X.env.locals < D := by have := I.lt; rw [vK] at this; exact this
 have Vo : ∀ b ∈ X.fs, b < D := fun b hb => Nat.lt_of_not_le fun z => I.XQ (a := b) (by rw [vK]; exact z) hb
 have Ng : ∀ {b : Addr} {pn : List (Addr × Obj)} {H' : Hp}, D ≤ b → b ≠ C → H' b = none → (∀ p ∈ pn, p.1 ≠ b) → lJ X' pn H' b := fun {b pn H'} hb hbC hn hp => by
   refine ⟨hn, by rw [eL]; exact hbC, fun z => ?_, .inr (by rw [Zz, vK]; exact hb), fun y c e => ?_, fun p hq => ?_⟩
   · rcases yc b z with q | q
     · rw [q] at hb; exact absurd (Nat.lt_of_lt_of_le Nf hb) (Nat.lt_irrefl _)
     · exact absurd (Nat.lt_of_lt_of_le (Vo b q) hb) (Nat.lt_irrefl _)
   · obtain ⟨v, o, ho, _⟩ := I.cell y c (cells' y c e)
     have := Heap.lt_size ho
     rw [vK] at this
     exact Nat.ne_of_lt (Nat.lt_of_lt_of_le this hb)
   · rw [Vn, List.nil_append] at hq
     exact hp p hq
 have outer : ∀ {σ' : St} {H' : Hp} {s' : Shared} {pn : List (Addr × Obj)}, Inv X' pn σ' H' s' → Inv X pins σ H' s' := fun {σ' H' s' pn} J' => by
   subst hX'
   refine I.call' (ch := fp) J'.os J'.base J'.hok J'.bare fun b hb => ?_
   obtain ⟨f0, f1, f2, f3, f4, f5⟩ := hf b hb
   exact ⟨f3, f1, f4, f5⟩
 have Cm : ∀ {b : Addr} {H' : Hp}, D ≤ b → H' b = none → lJ X pins H' b := fun {b H'} hb hn => by
   have q := I.Kv (H' := H') (b := b) (by rw [vK]; exact hb) hn
   exact q
 have loop : ∀ s₃ : Shared, s₃ = { s₂ with heap := h₁, toks := s₂.toks + ([] : List (Str × Value)).length } →
     codeAny (model X.prog X.w) X.A (.compLoop (.ListComp elt [⟨tg, iter, ifs, 0⟩] scope pos) 0 (.ref it) (.ref D) (compEnvC scope (iY X.env scope.names []) C X.env)) (RR (.ref D) C) s₃ := by
   rintro s₃ rfl
   refine K3 (fun k s' => ∃ (i : Nat) (ys : List V) (its : List Value) (σ0 σ1 : Option V) (H' : Hp), i ≤ n ∧ k = n + 1 - i ∧ ys.length ≤ i ∧ Inv X' [] (σ0 :: σ1 :: σ) H' s' ∧ tn i s'.heap ∧ (∀ b ∈ fp, H' b = none) ∧ H' D = none ∧ Vals ys its ∧
     (∃ c, s'.heap.get? D = some { cls := .type "list", data := .seq its.toArray c }) ∧ W i ys H') ?_ (n + 1) ⟨0, [], [], none, none, H₂, Nat.zero_le _, rfl, Nat.le_refl _, I₁, st₁, fun b hb => (hf b hb).1, by rw [← vK]; exact I.hok.fresh (Nat.le_refl _), .nil, ⟨0, hacc⟩, w0⟩
   rintro k s' ⟨i, ys, its, σ0, σ1, H', hi, rfl, hyl, I', st', fr', hD', rv, ⟨c, hobj⟩, w'⟩
   rcases turn i ys H' hi hyl w' with ⟨stop, fin⟩ | ⟨go, hlt, step⟩
   · have FT : Inv X' [(D, { cls := .type "list", data := .seq its.toArray c })] (σ0 :: σ1 :: σ) H' s' := I'.iB fun p hp => by
       obtain rfl : p = (D, { cls := .type "list", data := .seq its.toArray c }) := by simpa using hp
       refine ⟨hobj, hD', ?_, ?_, fun v z => nomatch z⟩
       · rw [eL]; exact hDC
       · intro z
         rcases yc D z with q | q
         · rw [q] at Nf; exact Nat.lt_irrefl _ Nf
         · exact Nat.lt_irrefl _ (Vo D q)
     have q := T.done X' eP ew eK ec i _ s' (σ0 :: σ1 :: σ) H' (notedBy (model X.prog X.w) X.A (compEnvC scope (iY X.env scope.names []) C X.env) fun e s' => RR (.ref D) C (.error e) s') FT (FQ (fun p hp => by obtain rfl : p = (D, { cls := .type "list", data := .seq its.toArray c }) := (by simpa using hp); rfl) fr') st' stop
     rw [eA] at q
     refine wpAny_mono q (fun r s4 ⟨hr, I4⟩ => ?_) fun _ _ z => z
     subst hr
     obtain ⟨e4, n4, _⟩ := I4.pin (D, { cls := .type "list", data := .seq its.toArray c }) (List.mem_append_right _ (by simp))
     have O4 := outer I4
     obtain ⟨m4, ZC, _⟩ := I4.loc
     rw [eL] at ZC
     refine hRR D C s4 H' ys m4 (O4.track (Cm (Nat.le_refl _) n4) (Nat.le_trans I.sz (by rw [vK]; exact Nat.le_refl _)) ⟨Nat.le_trans hyl (Nat.le_trans hi hsz), its, c, rv, e4⟩) n4 (Cm (by rw [hC]; exact Nat.le_succ _) ?_) ZC fin
     rw [zP (Ne.symm hDC)]
     have := I4.free
     rw [eL] at this
     exact this
   · have FT : Inv X' [(D, { cls := .type "list", data := .seq its.toArray c })] (σ0 :: σ1 :: σ) H' s' := I'.iB fun p hp => by
       obtain rfl : p = (D, { cls := .type "list", data := .seq its.toArray c }) := by simpa using hp
       refine ⟨hobj, hD', ?_, ?_, fun v z => nomatch z⟩
       · rw [eL]; exact hDC
       · intro z
         rcases yc D z with q | q
         · rw [q] at Nf; exact Nat.lt_irrefl _ Nf
         · exact Nat.lt_irrefl _ (Vo D q)
     have pd : ∀ p ∈ [(D, ({ cls := .type "list", data := .seq its.toArray c } : Obj))], p.1 = D := fun p hp => by obtain rfl : p = (D, { cls := .type "list", data := .seq its.toArray c }) := (by simpa using hp); rfl
     have q := T.item X' eP ew eK ec i _ s' (σ0 :: σ1 :: σ) H' (notedBy (model X.prog X.w) X.A (compEnvC scope (iY X.env scope.names []) C X.env) fun e s' => RR (.ref D) C (.error e) s') FT (FQ pd fr') st' go
     rw [eA] at q
     refine wpAny_mono q (fun r s4 ⟨u, hr, h4⟩ => ?_) fun _ _ z => z
     subst hr
     refine wpAny_mono h4 (fun _ s5 ⟨xv, H5, I5, r5, y5, MF, Xx⟩ => ?_) fun _ _ z => z
     have I5' := I5.pinned (FQ pd Xx) (T.obj _ _ MF)
     rw [← Ax]
     have g6 := step xv H5 y5 σ0 σ1
     have q6 := (hg C s₂ H₂ fp) (([(D, ({ cls := .type "list", data := .seq its.toArray c } : Obj))]) ++ tG fp s5.heap) s5 (σ0 :: σ1 :: σ) H5 xv u _ (by rw [hX']; exact I5') r5 g6
     rw [hX', eP, ew, eA] at q6
     refine wpAny_mono q6 (fun _ s6 ⟨ρ, H6, I6, ⟨u', v', eρ⟩, t6⟩ => ?_) (fun _ _ z => by subst hX'; exact (show False from z).elim)
     subst eρ
     have q7 := (ht C s₂ H₂ fp) _ s6 (u' :: v' :: σ) H6 _ (by rw [hX']; exact I6) t6
     rw [hX', eP, ew, eA] at q7
     refine wpAny_mono q7 (fun ok s7 ⟨H7, I7, w7⟩ => ?_) (fun _ _ z => by subst hX'; exact (show False from z).elim)
     have axs : ∀ {s8 : Shared} {H8 : Hp} {pn : List (Addr × Obj)}, Inv X' (pn ++ (([(D, ({ cls := .type "list", data := .seq its.toArray c } : Obj))]) ++ tG fp s5.heap)) (u' :: v' :: σ) H8 s8 → True := fun _ => trivial
     cases ok with
     | false =>
       obtain ⟨e7, n7, _⟩ := I7.pin (D, { cls := .type "list", data := .seq its.toArray c }) (List.mem_append_right _ (List.mem_append_left _ (by simp)))
       refine ⟨n + 1 - (i + 1), by omega, i + 1, ys, its, u', v', H7, hlt, rfl, Nat.le_succ_of_le hyl, I7.iB (JH := []) fun p hp => absurd hp (by simp), ?_, fun b hb => ?_, n7, rv, ⟨c, e7⟩, w7⟩
       · refine T.keep _ _ _ MF fun b hb o e => ?_
         exact (I7.pin (b, o) (List.mem_append_right _ (List.mem_append_right _ (yX hb e)))).1
       · obtain ⟨o, e, d⟩ := T.obj _ _ MF b hb
         exact (I7.pin (b, o) (List.mem_append_right _ (List.mem_append_right _ (yX hb e)))).2.1
     | true =>
       have q8 := (he C s₂ H₂ fp) _ s7 (u' :: v' :: σ) H7 (fun z Df => W (i + 1) (ys ++ [z]) Df) (by rw [hX']; exact I7) w7
       rw [hX', eP, ew, eA] at q8
       refine wpAny_mono q8 (fun u8 s8 ⟨v8, H8, I8, r8, w8⟩ => ?_) (fun _ _ z => by subst hX'; exact (show False from z).elim)
       obtain ⟨e7, n7, _⟩ := I8.pin (D, { cls := .type "list", data := .seq its.toArray c }) (List.mem_append_right _ (List.mem_append_left _ (by simp)))
       refine append_at (hsz := by rw [List.size_toArray, ← rv.length]; exact Nat.le_trans hyl (Nat.le_trans hi hsz)) e7 fun h8 ZD g8 => ?_
       have I9 : Inv X' [] (u' :: v' :: σ) H8 { s8 with heap := h8, toks := s8.toks } := (I8.iB (JH := []) fun p hp => absurd hp (by simp)).turned (t' := s8.toks) (it := D) (fun b o hb e => (ZD.2 b hb).trans e) n7 (by rw [eL]; exact hDC) (.inr (by rw [Zz, vK]; exact Nat.le_refl _))
         (Ng (H' := H8) (pn := []) (Nat.le_refl _) hDC n7 (fun p hp => absurd hp (by simp))).2.2.2.2.1 (fun p hp => by rw [Vn] at hp; exact absurd hp (by simp))
       refine ⟨n + 1 - (i + 1), by omega, i + 1, ys ++ [v8], its ++ [u8], u', v', H8, hlt, rfl, by rw [List.length_append, List.length_singleton]; omega, I9, ?_, fun b hb => ?_, n7, rv.append (.cons r8 .nil), ⟨c + 1, ?_⟩, w8⟩
       · refine T.keep _ _ _ MF fun b hb o e => ?_
         have e' := (I8.pin (b, o) (List.mem_append_right _ (List.mem_append_right _ (yX hb e)))).1
         exact (ZD.2 b (fun z => Dfp (z ▸ hb))).trans e'
       · obtain ⟨o, e, d⟩ := T.obj _ _ MF b hb
         exact (I8.pin (b, o) (List.mem_append_right _ (List.mem_append_right _ (yX hb e)))).2.1
       · rw [g8, List.push_toArray]
 exact codeAny_compStart_list (loop _ rfl) (T.self X.A 0 _ _ _ st₁ (loop _ rfl))
theorem V3 (K : uY X scope x y M) (hc : X.calm = true) (hi : PI X tg iter wi) (hg : ∀ (C : Addr) (s₂ : Shared) (H₂ : Hp) (fp : List Addr), PG (gh X scope C x y M s₂ H₂ fp) tg g) (ht : ∀ (C : Addr) (s₂ : Shared) (H₂ : Hp) (fp : List Addr), Yz (gh X scope C x y M s₂ H₂ fp) ifs tc) (he : ∀ (C : Addr) (s₂ : Shared) (H₂ : Hp) (fp : List Addr), PE (gh X scope C x y M s₂ H₂ fp) elt te)
   (hs : ∀ x, foldedSetIterable iter X.env x = pure x := by intro _; rfl) : PE X (.ListComp elt [⟨tg, iter, ifs, 0⟩] scope pos) (aa2 wi g tc te) := by
 intro pins s σ H Q I h
 rw [eval_ListComp]
 refine wpAny_comprehension_free (use := none) rfl hs (K.base.closure I.ok) K.base.kind K.base.names (eY (hi pins s σ H _ I h) fun v s1 h1 => eY h1 fun itv s2 h2 => ?_)
 obtain ⟨it, fp, tn, J, H2, e, I2, T, st2, f2, n, W, hsz, w0, turn⟩ := h2
 subst e
 refine N7 (RR := fun acc C => compPost (model X.prog X.w) X.A X.xe none (EP X pins σ Q) acc C) K hc I2 hg ht he T st2 f2 hsz (F := fun ys H => ∀ p, H p = none → Q (.ref p) (upd H p (.lst ys))) w0 turn ?_
 intro D C s' H' ys m I' n' fC ns fin
 refine ⟨m, ns, fun h' sb => ?_⟩
 obtain ⟨f0, f1, f2, f3, f4, f5⟩ := fC
 exact ⟨.ref D, _, I'.turned (t' := s'.toks) (it := C) (fun b o hb e => (sb.2 b hb).trans e) f0 f1 f3 f4 f5, rfl, fin D n'⟩
end
end L2
namespace L2
open PySem PySem.Spec PyProof.Rows PySem.Calls
section
variable {X : Cx} {scope : Scope} {x y : Str} {M : List Str} {elt iter : Expr} {ifs : List Expr} {pos p1 p2 p3 : Pos} {kk : Nat} {te : TE} {wi : TI} {tc : TT}
structure V4 (K : PySem.W.Frag) (J : It) (tc : TT) (te : TE) (σ : St) (H1 : Hp) (Q : VK) : Prop where
 ex : ∃ (n : Nat) (W : Nat → List V → Hp → Prop), n ≤ sizeLine ∧ W 0 [] H1 ∧ ∀ i ys H, i ≤ n → ys.length ≤ i → W i ys H →
   (J.stop i H ∧ ∀ p, H p = none → Q (.ref p) (upd H p (.lst ys))) ∨ (J.go i H ∧ i < n ∧ ∀ z H', J.Qg i H z H' → ∃ (p : Addr) (a b : V), z = .ref p ∧ lG K H' p [a, b] ∧ tc (some a :: some b :: σ) H' fun c H3 => if c = true then te (some a :: some b :: σ) H3 fun z H4 => W (i + 1) (ys ++ [z]) H4 else W (i + 1) ys H3)
def aa3 (K : PySem.W.Frag) (wi : TI) (tc : TT) (te : TE) : TE := fun σ H Q => wi σ H fun J H1 => V4 K J tc te σ H1 Q
theorem aa4 (K : uY X scope x y M) (hc : X.calm = true) {C : Addr} {s₂ : Shared} {H₂ : Hp} {fp : List Addr} : PG (gh X scope C x y M s₂ H₂ fp) (.Tuple [.Name x p1, .Name y p2] kk p3) (adQ X.K 2 (U3 (gf 0) (U3 (gf 1) adP))) :=
 U4 (X := gh X scope C x y M s₂ H₂ fp) hc (xX (uR K.nd2 rfl (.inl (lookup_relabel_local K.base.loc)) (.inr (lookup_relabel_local K.base.loc))) (xX (uR K.nd2 rfl (.inl (lookup_relabel_local K.aed)) (.inr (lookup_relabel_local K.aed))) Rt))
theorem V5 (K : uY X scope x y M) (hc : X.calm = true) (hi : PI X (.Tuple [.Name x p1, .Name y p2] kk p3) iter wi) (ht : ∀ (C : Addr) (s₂ : Shared) (H₂ : Hp) (fp : List Addr), Yz (gh X scope C x y M s₂ H₂ fp) ifs tc) (he : ∀ (C : Addr) (s₂ : Shared) (H₂ : Hp) (fp : List Addr), PE (gh X scope C x y M s₂ H₂ fp) elt te)
   (hs : ∀ x, foldedSetIterable iter X.env x = pure x := by intro _; rfl) : PE X (.ListComp elt [⟨.Tuple [.Name x p1, .Name y p2] kk p3, iter, ifs, 0⟩] scope pos) (aa3 X.K wi tc te) := by
 intro pins s σ H Q I h
 have q := V3 (pos := pos) K hc (wi := fun σ0 H0 R0 => ∃ R, wi σ0 H0 R ∧ ∀ J H1, R J H1 → R0 J H1) (yf hi fun σ H R ⟨R1, a, b⟩ => ⟨R1, a, b⟩) (fun C s₂ H₂ fp => aa4 (p1 := p1) (p2 := p2) (p3 := p3) (kk := kk) K hc) ht he hs pins s σ H Q I
 refine q ⟨_, h, fun J H1 r => ?_⟩
 obtain ⟨n, W, h1, h2, h3⟩ := r.ex
 refine ⟨n, W, h1, h2, fun i ys H' hi hy hw => ?_⟩
 rcases h3 i ys H' hi hy hw with hq | ⟨g1, g2, g3⟩
 · exact .inl hq
 · refine .inr ⟨g1, g2, fun z H2 hz u v => ?_⟩
   obtain ⟨p, a, b, e, hq, t⟩ := g3 z H2 hz
   exact ⟨p, [a, b], e, hq, rfl, a, [b], rfl, b, [], rfl, rfl, ⟨_, _, rfl⟩, t⟩
end
theorem QF {K : PySem.W.Frag} {a : Addr} {xs : List V} {tc : TT} {te : TE} {σ : St} {H : Hp} {Q : VK} (hz : xs.length ≤ sizeLine) (W : Nat → List V → Hp → Prop) (h0 : W 0 [] H) (hq : ∀ i ys H, W i ys H → bz K H a xs)
   (hs : ∀ i x ys H, xs[i]? = some x → ys.length ≤ i → W i ys H → ∃ (p : Addr) (u v : V), x = .ref p ∧ lG K H p [u, v] ∧ tc (some u :: some v :: σ) H fun c H3 => if c = true then te (some u :: some v :: σ) H3 fun z H4 => W (i + 1) (ys ++ [z]) H4 else W (i + 1) ys H3)
   (hd : ∀ ys H, W xs.length ys H → ∀ p, H p = none → Q (.ref p) (upd H p (.lst ys))) : V4 K (Itl K a) tc te σ H Q := by
 refine ⟨xs.length, W, hz, h0, fun i ys H hi hl hw => ?_⟩
 have q := hq i ys H hw
 by_cases hlt : i < xs.length
 · refine .inr ⟨⟨xs, xs[i], q, by simp [hlt]⟩, hlt, fun v H' y => ?_⟩
   obtain ⟨e, y⟩ := y
   subst e
   exact hs i v ys _ (y xs q) hl hw
 · have e : i = xs.length := by omega
   subst e
   exact .inl ⟨⟨xs, q, Nat.le_refl _⟩, hd ys H hw⟩
theorem N8 : isSubtype (.type "list") (.type "set") = pure false := by rw [isSubtype_type]; kernel_rfl
theorem yp : isSubtype (.type "list") (.type "frozenset") = pure false := by rw [isSubtype_type]; kernel_rfl
section
variable {prog : Program} {w : World} {A : Around} {E : Value → Shared → Prop} {s : Shared}
set_option maxHeartbeats 3200000 in
theorem TX {l : Addr} {items : Array Value} {ws : List Str} {Q : Value → Shared → Prop}
   (hh : A.handled = none) (hl : s.heap.IsList l items) (hn : ws.length = items.size) (hi : ∀ (i : Nat) v, items[i]? = some v → ∃ z t, v = .str z t ∧ ws[i]? = some z) (hb : items.size + 1 < scanBound)
   (h : ∀ (h' : Heap) (tk : Nat), h'.SetOf (strKind prog w) s.heap.objs.size (fun k' => decide (k' ∈ gR ws)) (gR ws).length →
     (∀ b o, b < s.heap.objs.size → s.heap.get? b = some o → h'.get? b = some o) → Q (.ref s.heap.objs.size) { s with heap := h', toks := tk }) :
   wpAny (model prog w) A (call (.type "set") [.ref l]) Q E s := by
 obtain ⟨c, tl, hmro⟩ := F.called_set.mro
 have hmade := F.called_set.made
 have hsub := F.called_set.sub
 refine wpAny_call (codeAny_of_tree ?_)
 show wpAny _ _ (callAny (.type "set") _) _ _ _
 refine wpAny_pure ⟨Code.quiet_builtin _ (by symm), codeAny_builtin F.entry_type_call ?_⟩
 rw [Around.under_plain (weight_type_call_type "set" [.ref l] []) rfl]
 have h1 := F.called_set.notType
 have h2 := F.called_set.canCreate
 have hct := F.typeCall_set_1 (.ref l)
 repeat (any_goals (first | assumption | wp_step))
 refine codeAny_mono (code_set_new_1 (.ref l) (E := E) (Q₁ := fun obj s₁ => ∃ led : Bool, obj = .ref s.heap.objs.size ∧ s₁ = { s with heap := s.heap.push { cls := .type "set", dict := none, data := .set #[] 0 (.fresh 0 0 led) } }) fun led => ⟨led, rfl, rfl⟩) fun r s₁ hr => ?_
 cases r with
 | error e => exact hr
 | ok fl =>
   cases fl with
   | ret obj =>
     obtain ⟨led, rfl, rfl⟩ := hr
     have hS : (s.heap.push { cls := .type "set", dict := none, data := .set #[] 0 (.fresh 0 0 led) }).get? s.heap.objs.size = some { cls := .type "set", dict := none, data := .set #[] 0 (.fresh 0 0 led) } := Heap.get?_push_size _ rfl
     have hT : Shared.TypeIs { s with heap := s.heap.push { cls := .type "set", dict := none, data := .set #[] 0 (.fresh 0 0 led) } } (.ref s.heap.objs.size) "set" := ⟨_, hS, rfl⟩
     have hli := F.called_set.init.lookup
     have hbi := F.called_set.init.bind (.ref s.heap.objs.size)
     repeat (any_goals (first | assumption | wp_step))
     refine codeAny_mono (codeAny_call_builtin (R := wants (fun r s₂ => r = .none ∧ ∃ h' tk, s₂ = { s with heap := h', toks := tk } ∧
         h'.SetOf (strKind prog w) s.heap.objs.size (fun k' => decide (k' ∈ gR ws)) (gR ws).length ∧
         (∀ b o, b < s.heap.objs.size → s.heap.get? b = some o → h'.get? b = some o)) E) F.called_set.init.plain F.entry_set_init (check_set_init_1 hT ?_)) fun r₂ s₂ hr₂ => ?_
     · obtain ⟨ol, hol, hcl, nl, hdl⟩ := hl
       obtain ⟨ocls, odict, odata, oslots⟩ := ol
       simp only at hcl hdl
       subst hcl; subst hdl
       have hol' : (s.heap.push { cls := .type "set", dict := none, data := .set #[] 0 (.fresh 0 0 led) }).get? l = some { cls := .type "list", dict := odict, data := .seq items nl, slots := oslots } := Heap.get?_push_of_some _ hol
       have hsls := N8
       have hslf := yp
       have hne : (Value.type "list" == Value.type "dict") = false := by decide
       have hl1 : (s.heap.push { cls := .type "set", dict := none, data := .set #[] 0 (.fresh 0 0 led) }).IsList l items := ⟨_, hol', rfl, nl, rfl⟩
       unfold Builtin.«set.__init__» noKeywords Builtin.Frozenset.updateFrom
       generalize hPI : pyIter = PI
       wp_walk
       subst hPI
       refine wpAny_pyIter_list hl1 ?_
       refine wpAny_bind (wpAny_runValue ?_)
       have hlS : l < s.heap.objs.size := Heap.lt_size hol
       have hh3 : A.in1.in1.in1.handled = none := by simp [hh]
       have hneI : l ≠ (s.heap.push { cls := .type "set", dict := none, data := .set #[] 0 (.fresh 0 0 led) }).objs.size := by
         rw [Heap.size_push]; exact Nat.ne_of_lt (Nat.lt_succ_of_lt hlS)
       have hSf : s.heap.objs.size ∉ [(s.heap.push { cls := .type "set", dict := none, data := .set #[] 0 (.fresh 0 0 led) }).objs.size, l] := by
         rw [Heap.size_push]; simp only [List.mem_cons, List.mem_singleton, List.not_mem_nil, or_false, not_or]
         exact ⟨Nat.ne_of_lt (Nat.lt_succ_self _), Nat.ne_of_gt hlS⟩
       refine TF ((Walks.list hh3 _ l hneI items).toS) s.heap.objs.size
         hSf ws hn hi hb (items.size - 0) 0 _ (by omega) (Nat.zero_le _)
         ⟨⟨_, Heap.get?_push_size _ rfl, rfl, rfl⟩, ⟨_, Heap.get?_push_of_some _ hol', rfl, nl, rfl⟩⟩ ?hS0 ?hR
       case hS0 =>
         have hget : ((s.heap.push { cls := .type "set", dict := none, data := .set #[] 0 (.fresh 0 0 led) }).push { cls := .type "list_iterator", data := .fields #[.ref l, .int 0 0] }).get? s.heap.objs.size
             = some { cls := .type "set", dict := none, data := .set #[] 0 (.fresh 0 0 led) } := Heap.get?_push_of_some _ hS
         exact SetOf_congr ((setObjOf_fresh (knd := strKind prog w) led).setOf hget (by unfold scanBound; omega)) (fun _ => rfl) rfl
       case hR =>
         intro s' hm hS'
         obtain ⟨h', g', d', tk', os'⟩ := s'
         have eg : g' = s.gens := hm.gens
         have ed : d' = s.drawn := hm.drawn
         have eo : os' = s.os := hm.os
         subst eg; subst ed; subst eo
         show wpAny _ _ _ _ _ _
         refine wpAny_pure ?_
         show wpAny _ _ (ret Value.none) _ _ _
         refine wpAny_pure ⟨rfl, h', tk', rfl, hS', fun b o hb e => ?_⟩
         have hb1 : b ≠ s.heap.objs.size := Nat.ne_of_lt hb
         have hb2 : b ≠ (s.heap.push { cls := .type "set", dict := none, data := .set #[] 0 (.fresh 0 0 led) }).objs.size := by
           rw [Heap.size_push]; exact Nat.ne_of_lt (Nat.lt_succ_of_lt hb)
         exact hm.heap b o (by simp only [List.mem_cons, List.mem_singleton, List.not_mem_nil, or_false, not_or]; exact ⟨hb1, hb2⟩) (Heap.get?_push_of_some _ (Heap.get?_push_of_some _ e))
     · cases r₂ with
       | error e => exact hr₂
       | ok fl₂ =>
         cases fl₂ with
         | ret r =>
           obtain ⟨rfl, h', tk, rfl, hS', hk'⟩ := hr₂
           repeat (any_goals (first | assumption | wp_step))
           exact h _ _ hS' hk'
         | _ => exact hr₂.elim
   | _ => exact hr.elim
end
section
variable {X : Cx}
theorem K4 (hc : X.calm = true) : bL X (.type "set") (fun xs H Q => ∃ (p : Addr) (ws : List Str), xs = [.ref p] ∧ bz X.K H p (ws.map V.str) ∧ ws.length ≤ 1000 ∧ ∀ l, H l = none → Q (.ref l) (upd H l (SetT X.prog X.w l (fun k => decide (k ∈ gR ws)) (gR ws).length))) := by
 intro pins s σ H xs us Q I r h
 obtain ⟨p, ws, rfl, hq, hw, q⟩ := h
 obtain ⟨u, rfl, ru⟩ := vals1 r
 cases ru
 obtain ⟨its, rv, pl, hz⟩ := I.list hq
 have hl := rv.length
 rw [List.length_map] at hl
 refine TX (ws := ws) (I.ok.hd hc) pl.isList (by rw [List.size_toArray]; omega) (fun i v hv => ?_) (by rw [List.size_toArray]; unfold scanBound; omega) (fun h' tk hS k => ?_)
 · have hv' : its[i]? = some v := by simpa using hv
   obtain ⟨x, hx, rx⟩ := yj rv (j := i) (by rw [List.size_toArray]; exact (List.getElem?_eq_some_iff.mp hv').1)
   obtain ⟨z, hz', rfl⟩ := qX hx
   obtain ⟨t, e⟩ := rx
   refine ⟨z, t, ?_, hz'⟩
   rw [← e]
   exact (List.getElem?_eq_some_iff.mp hv').2.symm.trans (by simp)
 · refine ⟨.ref s.heap.objs.size, _, I.laid (t' := tk) (a := s.heap.objs.size) (o := SetT X.prog X.w s.heap.objs.size (fun k => decide (k ∈ gR ws)) (gR ws).length) (fun b o e => k b o (Heap.lt_size e) e) (Nat.le_refl _) ?_, rfl, q _ (I.hok.fresh (Nat.le_refl _))⟩
   obtain ⟨o, es, ep, t, ho, rest⟩ := hS
   refine ⟨⟨o, es, ep, t, ho, rest⟩, ⟨o, ho⟩, fun h1 h2 ⟨o1, es1, ep1, t1, ho1, aee⟩ hk => ⟨o1, es1, ep1, t1, hk _ ho1, aee⟩⟩
end
section
variable {X : Cx} {tg : Expr}
end
theorem J4 {X : Cx} {H : Hp} {n : Nat} {p q : Addr} {xs ys : List V} (h : lG X.K H p xs) (k : lG X.K H q ys) (fx : xs.all gw = true) (fy : ys.all gw = true) (hxy : Tv xs ys = true → xs = ys) : Nt X H (n + 1) (.ref p) (.ref q) (Tv xs ys) := by
 by_cases hpq : p = q
 · subst hpq
   intro pins s σ u v A I ru rv hu
   have e2 := I.S8 h k
   subst e2
   rw [yl fx]
   exact Gh (n := n + 1) pins s σ u v A I ru rv hu
 · exact Gi hpq (Tw (n := n) h k fx fy)
end L2
namespace L2
open PySem PySem.Spec PyProof.Rows PySem.Calls
end L2
namespace L2
open PySem PySem.Spec PyProof.Rows PySem.Calls
end L2
namespace L2
open PySem PySem.Spec PyProof.Rows PySem.Calls
open PySem.W (tabObj CodeHd kla_obj kla_fn)
structure Oa where
 qual : Str
 params : Arguments
 body : Expr
 scope : Scope
 x : Str
 y : Str
def jf (P : Addr) (H H' : Hp) : Prop := ∀ b u, b ≠ P → H b = some u → H' b = some u
theorem jf.trans {P : Addr} {H H1 H2 : Hp} (a : jf P H H1) (b : jf P H1 H2) : jf P H H2 := fun c u n e => b c u n (a c u n e)
theorem jf.refl {P : Addr} {H : Hp} : jf P H H := fun _ _ _ e => e
theorem IsCell.one {h1 h2 : Heap} {c : Addr} {v : Option Value} (x : h1.IsCell c v) (k : ∀ o, h1.get? c = some o → h2.get? c = some o) : h2.IsCell c v :=
 let ⟨o, ho, hd⟩ := x; ⟨o, k o ho, hd⟩
structure Oa.Ok (D : Oa) : Prop where
 kind : D.scope.kind = .function
 co : D.scope.isCoroutine = false
 gen : D.scope.isGenerator = false
 names : D.scope.names = [(D.x, .local), (D.y, .free)]
 ne : D.x ≠ D.y
 bind : ∀ (cc : Addr) (pm cdv ct u : Value), bindArgs (kla_fn "<lambda>" D.qual D.params D.body D.scope [(D.y, cc)] pm cdv ct) ⟨[u], []⟩ = pure [(D.x, u)]
theorem Oa.Ok.lx {D : Oa} (O : D.Ok) : D.scope.names.lookup D.x = some .local := by rw [O.names, List.lookup_cons, beq_self_eq_true]
theorem Oa.Ok.ly {D : Oa} (O : D.Ok) : D.scope.names.lookup D.y = some .free := by
 rw [O.names, List.lookup_cons, beq_eq_false_iff_ne.mpr O.ne.symm, List.lookup_cons, beq_self_eq_true]
theorem Oa.Ok.of {D : Oa} (O : D.Ok) {x : Str} {k : NameKind} (h : D.scope.names.lookup x = some k) : (x = D.x ∧ k = .local) ∨ (x = D.y ∧ k = .free) := by
 rw [O.names, List.lookup_cons] at h
 cases e : x == D.x with
 | true => rw [e] at h; cases h; exact .inl ⟨eq_of_beq e, rfl⟩
 | false =>
   rw [e, List.lookup_cons] at h
   cases e2 : x == D.y with
   | true => rw [e2] at h; cases h; exact .inr ⟨eq_of_beq e2, rfl⟩
   | false => rw [e2] at h; cases h
end L2
namespace L2
open PySem PySem.Spec PyProof.Rows PySem.Calls
open PySem.W (tabObj CodeHd kla_obj kla_fn)
end L2
namespace L2
open PySem PySem.Spec PyProof.Rows PySem.Calls
open PySem.W (tabObj CodeHd kla_obj kla_fn)
end L2
namespace L2
open PySem PySem.Spec PyProof.Rows PySem.Calls
section
variable {X : Cx}
end
end L2
namespace L2
open PySem PySem.Spec PyProof.Rows PySem.Calls
section
variable {X : Cx}
end
end L2
namespace L2
open PySem PySem.Spec
end L2
namespace L2
open PySem PySem.Spec PyProof.Rows PySem.Calls
section
variable {X : Cx}
def TJ := St → Hp → (Hp → Prop) → Prop
def JP (X : Cx) (n : Nat) (es : List Expr) (t : TJ) : Prop := ∀ (out : Str) (pins : List (Addr × Obj)) (s : Shared) (σ : St) (H : Hp) (Q : VK), out.length ≤ n → Inv X pins σ H s → t σ H (fun H1 => ∀ y, Q (.str y) H1) → wpAny (model X.prog X.w) X.A (joinParts out (evalEach es X.env)) (EP X pins σ Q) X.xe s
theorem V6 {n : Nat} (hn : n ≤ 16777216 := by symm) : JP X n [] (fun σ H K => K H) := by
 intro out pins s σ H Q ho I h
 refine joinParts_nilE (joinParts_nil ⟨.str _, H, I.tok _, ⟨_, rfl⟩, h _⟩ ?_)
 rw [sizeLine_eq]; omega
theorem V7 {n : Nat} {c : Str} {j : Nat} {p : Pos} {es : List Expr} {t : TJ} (h : JP X (n + c.length) es t) (hn : n + c.length ≤ 16777216 := by symm) : JP X n (.Constant (.str c) j p :: es) t := by
 intro out pins s σ H Q ho I ht
 have hl : (out ++ c).length ≤ n + c.length := by rw [strLen_append]; omega
 exact joinParts_consE (joinParts_cons (Calls.Constant_str ⟨by rw [sizeLine_eq]; omega, h _ pins _ σ H Q hl (I.tok _) ht⟩))
theorem YB {n : Nat} {e : Expr} {te : TE} {p : Pos} {es : List Expr} {t : TJ} (he : PE X e te) (h : JP X (n + 1000002) es t) (hn : n + 1000002 ≤ 16777216 := by symm) :
   JP X n (.FormattedValue e 114 none p :: es) (fun σ H K => te σ H fun x H1 => ∃ z, x = .str z ∧ z.length ≤ 100000 ∧ (∀ k ∈ cd z, k < 1000) ∧ t σ H1 K) := by
 intro out pins s σ H Q ho I ht
 refine joinParts_consE (joinParts_cons (wpAny_FormattedValue_repr (eY (he pins _ σ H _ I ht) fun v s1 ⟨x, H1, I1, r, z, ex, hz, hk, q⟩ => ?_)))
 subst ex
 obtain ⟨t', rfl⟩ := r
 have hl : (reprText z).length ≤ 1000002 := Nat.le_trans (StrLaws.reprText_len z fun c hc => Nat.lt_of_lt_of_le (hk c hc) (by decide)) (by omega)
 have hl2 : (out ++ reprText z).length ≤ n + 1000002 := by rw [strLen_append]; omega
 refine wpAny_pyReprObj_str (formatField_str (fun t' tk => ⟨?_, h _ pins _ σ H1 Q hl2 (I1.tok _) q⟩) ?_) ?_
 · rw [sizeLine_eq]; omega
 · rw [sizeLine_eq]; omega
 · rw [sizeLine_eq]; omega
theorem Ob {v1 v2 : Expr} {rest : List Expr} {pos : Pos} {t : TJ} (h : JP X 0 (v1 :: v2 :: rest) t) : PE X (.JoinedStr (v1 :: v2 :: rest) pos) (fun σ H Q => t σ H fun H1 => ∀ y, Q (.str y) H1) := by
 intro pins s σ H Q I ht
 exact JoinedStr_many (h Str.empty pins s σ H Q (Nat.le_refl _) I ht)
end
end L2
namespace L2
open PySem PySem.Spec PyProof.Rows PySem.Calls
section
variable {X : Cx}
end
end L2
namespace L2
open PySem PySem.Spec PyProof.Rows PySem.Calls
section
variable {X : Cx} {scope : Scope} {x y : Str} {M : List Str} {tg elt iter : Expr} {ifs : List Expr} {pos p1 p2 p3 : Pos} {kk : Nat} {te : TE} {wi : TI} {tc : TT} {g : TG}
end
end L2
namespace L2
open PySem PySem.Spec PyProof.Rows PySem.Calls
end L2
namespace L2
open PySem PySem.Spec PyProof.Rows PySem.Calls
theorem thI {α : Type} {t : Sem α} {Q : α → Shared → Prop} {M : Model} {A : Around} {E : Value → Shared → Prop} {s : Shared} {n : Nat} (hn : n ≤ s.toks) (h : wpAny M A t (fun a s => n ≤ s.toks → Q a s) E s) : wpAny M A t Q E s := Ux hn h fun _ _ hn q => q hn
section
variable {X : Cx} {scope : Scope} {x : Str} {M : List Str} {pins : List (Addr × Obj)} {σ : St} {H₂ : Hp} {s₂ : Shared} {elt iter : Expr} {px pos : Pos} {te : TE} {wi : TI}
theorem Oc (K : cV X scope x M) (hc : X.calm = true) (I : Inv X pins σ H₂ s₂) (ht₂ : 1 ≤ s₂.toks) (he : ∀ (C : Addr) (s₂ : Shared) (H₂ : Hp) (fp : List Addr), Yu (iZ X scope C x M s₂ H₂ fp) elt te)
   {it : Addr} {fp : List Addr} {tn : Nat → Heap → Prop} {J : It} (T : Turn X.prog X.w X.K (.Name x px) J fp it tn) (st : tn 0 s₂.heap) (hf : ∀ b ∈ fp, lJ X pins H₂ b) {n : Nat} (hsz : n ≤ sizeLine) {W : Nat → List V → Hp → Prop} {F : List V → Hp → Prop}
   (w0 : W 0 [] H₂) (turn : ∀ i ys H, i ≤ n → ys.length = i → W i ys H → (J.stop i H ∧ F ys H) ∨ (J.go i H ∧ i < n ∧ ∀ x H', J.Qg i H x H' → te (some x :: σ) H' fun v Df => W (i + 1) (ys ++ [v]) Df))
   {E : Value → Shared → Prop} {RR : Value → Addr → Result → Shared → Prop}
   (hRR : ∀ (D C : Addr) (s' : Shared) (H' : Hp) (ys : List V) (m : Str → Option Value), Inv X pins σ (upd H' D (.lst ys)) s' → H' D = none → lJ X pins (upd H' D (.lst ys)) C → s'.heap.Ns C m → F ys H' → RR (.ref D) C (.ok .next) s') :
   wpAny (model X.prog X.w) X.A (newList []) (fun acc s₃ => wpAny (model X.prog X.w) X.A (newFunctionEnv scope X.env.globals (iY X.env scope.names []) [] X.env.qual none .none (some X.env)) (fun cenv s₄ =>
     codeAny (model X.prog X.w) X.A (.compStart (.ListComp elt [⟨.Name x px, iter, [], 0⟩] scope pos) 0 (.ref it) acc { cenv with scope := relabel scope X.env }) (RR acc cenv.locals) s₄) E s₃) E s₂ := by
 refine wpAny_newObj_type (wpAny_newFunctionEnv K.cell (by intro y hy; simp at hy) (fun h₁ hns₁ hsb₁ => ?_) K.kind)
 dsimp only at hns₁ hsb₁ ⊢
 generalize hH2 : s₂.heap.push { cls := .type "list", dict := none, data := .seq ([] : List Value).toArray } = H2 at hns₁ hsb₁ ⊢
 have hC : H2.objs.size = s₂.heap.objs.size + 1 := by rw [← hH2, Heap.size_push]
 have hDC : s₂.heap.objs.size ≠ H2.objs.size := by rw [hC]; exact Nat.ne_of_lt (Nat.lt_succ_self _)
 have below : ∀ b, b < s₂.heap.objs.size → b ≠ H2.objs.size ∧ b ≠ s₂.heap.objs.size := fun b hb => ⟨by rw [hC]; exact Nat.ne_of_lt (Nat.lt_succ_of_lt hb), Nat.ne_of_lt hb⟩
 have hfl : ∀ b ∈ fp, b < s₂.heap.objs.size := fun b hb => by obtain ⟨o, e, _⟩ := T.obj _ _ st b hb; exact Heap.lt_size e
 have old : ∀ b o, s₂.heap.get? b = some o → h₁.get? b = some o := fun b o e => hsb₁.extBut b o (below b (Heap.lt_size e)).1 (Heap.get?_push_of_some _ (hH2 ▸ Heap.get?_push_of_some _ e))
 have hacc : h₁.get? s₂.heap.objs.size = some { cls := .type "list", data := .seq ([] : List Value).toArray 0 } := hsb₁.extBut _ _ hDC (Heap.get?_push_of_some _ (hH2 ▸ Heap.get?_push_size _ rfl))
 generalize hCC : H2.objs.size = C at *
 generalize vK : s₂.heap.objs.size = D at *
 have hCle : s₂.heap.objs.size ≤ C := by rw [vK, hC]; exact Nat.le_succ _
 have st₁ : tn 0 h₁ := T.keep _ _ _ st fun b _ o e => old b o e
 have I₁ := FN (t := s₂.toks + ([] : List (Str × Value)).length) K I hf (fun b hb => by rw [vK]; exact hfl b hb) hCle hns₁ old
 generalize hX' : iZ X scope C x M s₂ H₂ fp = X' at I₁
 have eX : X'.prog = X.prog ∧ X'.w = X.w ∧ X'.K = X.K ∧ X'.calm = true ∧ X'.A = X.A ∧ X'.ex = fp ∧ X'.env = compEnvC scope (iY X.env scope.names []) C X.env ∧ X'.s₀ = s₂ ∧ X'.pn = [] := by
   subst hX'; exact ⟨rfl, rfl, rfl, hc, rfl, rfl, rfl, rfl, rfl⟩
 obtain ⟨eP, ew, eK, ec, eA, eex, Ax, Zz, Vn⟩ := eX
 have eL : X'.env.locals = C := by rw [Ax]; rfl
 have cells' : ∀ y c, X'.env.cells.lookup y = some c → X.env.cells.lookup y = some c := fun y c e => by rw [Ax] at e; exact cV.vJ e
 have efs : X'.fs = frs X.stack := by subst hX'; rfl
 have yc : ∀ b ∈ X'.fs, b = X.env.locals ∨ b ∈ X.fs := fun b hb => List.mem_cons.mp (I.sZ b (by rw [← efs]; exact hb))
 have FQ : ∀ {pn : List (Addr × Obj)} {H' : Hp}, (∀ p ∈ pn, p.1 = D) → (∀ b ∈ fp, H' b = none) → ∀ b ∈ fp, lJ X' pn H' b := fun {pn H'} hp hn b hb => by
   refine ⟨hn b hb, ?_, fun z => ?_, .inl (by rw [eex]; exact hb), fun y c e => (hf b hb).2.2.2.2.1 y c (cells' y c e), fun p hq => ?_⟩
   · rw [eL]; exact (below b (hfl b hb)).1
   · rcases yc b z with q | q
     · exact (hf b hb).2.1 q
     · exact (hf b hb).2.2.1 q
   · rw [Vn, List.nil_append] at hq
     rw [hp p hq]; exact Ne.symm (below b (hfl b hb)).2
 have Dfp : D ∉ fp := fun z => Nat.lt_irrefl _ (hfl D z)
 have Nf : X.env.locals < D := by have := I.lt; rw [vK] at this; exact this
 have Vo : ∀ b ∈ X.fs, b < D := fun b hb => Nat.lt_of_not_le fun z => I.XQ (a := b) (by rw [vK]; exact z) hb
 have Ng : ∀ {b : Addr} {pn : List (Addr × Obj)} {H' : Hp}, D ≤ b → b ≠ C → H' b = none → (∀ p ∈ pn, p.1 ≠ b) → lJ X' pn H' b := fun {b pn H'} hb hbC hn hp => by
   refine ⟨hn, by rw [eL]; exact hbC, fun z => ?_, .inr (by rw [Zz, vK]; exact hb), fun y c e => ?_, fun p hq => ?_⟩
   · rcases yc b z with q | q
     · rw [q] at hb; exact absurd (Nat.lt_of_lt_of_le Nf hb) (Nat.lt_irrefl _)
     · exact absurd (Nat.lt_of_lt_of_le (Vo b q) hb) (Nat.lt_irrefl _)
   · obtain ⟨v, o, ho, _⟩ := I.cell y c (cells' y c e)
     have := Heap.lt_size ho
     rw [vK] at this
     exact Nat.ne_of_lt (Nat.lt_of_lt_of_le this hb)
   · rw [Vn, List.nil_append] at hq
     exact hp p hq
 have outer : ∀ {σ' : St} {H' : Hp} {s' : Shared} {pn : List (Addr × Obj)}, Inv X' pn σ' H' s' → Inv X pins σ H' s' := fun {σ' H' s' pn} J' => by
   subst hX'
   refine I.call' (ch := fp) J'.os J'.base J'.hok J'.bare fun b hb => ?_
   obtain ⟨f0, f1, f2, f3, f4, f5⟩ := hf b hb
   exact ⟨f3, f1, f4, f5⟩
 have Cm : ∀ {b : Addr} {H' : Hp}, D ≤ b → H' b = none → lJ X pins H' b := fun {b H'} hb hn => by
   have q := I.Kv (H' := H') (b := b) (by rw [vK]; exact hb) hn
   exact q
 have loop : ∀ s₃ : Shared, s₃ = { s₂ with heap := h₁, toks := s₂.toks + ([] : List (Str × Value)).length } →
     codeAny (model X.prog X.w) X.A (.compLoop (.ListComp elt [⟨.Name x px, iter, [], 0⟩] scope pos) 0 (.ref it) (.ref D) (compEnvC scope (iY X.env scope.names []) C X.env)) (RR (.ref D) C) s₃ := by
   rintro s₃ rfl
   refine Ck (fun k s' => ∃ (i : Nat) (ys : List V) (its : List Value) (σ0 : Option V) (H' : Hp), i ≤ n ∧ k = n + 1 - i ∧ ys.length = i ∧ Inv X' [] (σ0 :: σ) H' s' ∧ tn i s'.heap ∧ (∀ b ∈ fp, H' b = none) ∧ H' D = none ∧ Vals ys its ∧
     (∃ c, s'.heap.get? D = some { cls := .type "list", data := .seq its.toArray c }) ∧ W i ys H' ∧ 1 ≤ s'.toks) ?_ (n + 1) ⟨0, [], [], none, H₂, Nat.zero_le _, rfl, rfl, I₁, st₁, fun b hb => (hf b hb).1, by rw [← vK]; exact I.hok.fresh (Nat.le_refl _), .nil, ⟨0, hacc⟩, w0, (by show 1 ≤ s₂.toks + _; omega)⟩
   rintro k s' ⟨i, ys, its, σ0, H', hi, rfl, hyl, I', st', fr', hD', rv, ⟨c, hobj⟩, w', ht'⟩
   have hx0 : X'.N[0]? = some x := by subst hX'; rfl
   have hxl : X'.env.scope.names.lookup x = some .local := by rw [Ax]; exact lookup_relabel_local K.loc
   have hNd : X'.N.Nodup := by subst hX'; exact K.nd
   rcases turn i ys H' hi hyl w' with ⟨stop, fin⟩ | ⟨go, hlt, step⟩
   · have FT : Inv X' [(D, { cls := .type "list", data := .seq its.toArray c })] (σ0 :: σ) H' s' := I'.iB fun p hp => by
       obtain rfl : p = (D, { cls := .type "list", data := .seq its.toArray c }) := by simpa using hp
       refine ⟨hobj, hD', ?_, ?_, fun v z => nomatch z⟩
       · rw [eL]; exact hDC
       · intro z
         rcases yc D z with q | q
         · rw [q] at Nf; exact Nat.lt_irrefl _ Nf
         · exact Nat.lt_irrefl _ (Vo D q)
     have q := T.done X' eP ew eK ec i _ s' (σ0 :: σ) H' (notedBy (model X.prog X.w) X.A (compEnvC scope (iY X.env scope.names []) C X.env) fun e s' => RR (.ref D) C (.error e) s') FT (FQ (fun p hp => by obtain rfl : p = (D, { cls := .type "list", data := .seq its.toArray c }) := (by simpa using hp); rfl) fr') st' stop
     rw [eA] at q
     refine wpAny_mono q (fun r s4 ⟨hr, I4⟩ => ?_) fun _ _ z => z
     subst hr
     obtain ⟨e4, n4, _⟩ := I4.pin (D, { cls := .type "list", data := .seq its.toArray c }) (List.mem_append_right _ (by simp))
     have O4 := outer I4
     obtain ⟨m4, ZC, _⟩ := I4.loc
     rw [eL] at ZC
     refine hRR D C s4 H' ys m4 (O4.track (Cm (Nat.le_refl _) n4) (Nat.le_trans I.sz (by rw [vK]; exact Nat.le_refl _)) ⟨by rw [hyl]; exact Nat.le_trans hi hsz, its, c, rv, e4⟩) n4 (Cm (by rw [hC]; exact Nat.le_succ _) ?_) ZC fin
     rw [zP (Ne.symm hDC)]
     have := I4.free
     rw [eL] at this
     exact this
   · have FT : Inv X' [(D, { cls := .type "list", data := .seq its.toArray c })] (σ0 :: σ) H' s' := I'.iB fun p hp => by
       obtain rfl : p = (D, { cls := .type "list", data := .seq its.toArray c }) := by simpa using hp
       refine ⟨hobj, hD', ?_, ?_, fun v z => nomatch z⟩
       · rw [eL]; exact hDC
       · intro z
         rcases yc D z with q | q
         · rw [q] at Nf; exact Nat.lt_irrefl _ Nf
         · exact Nat.lt_irrefl _ (Vo D q)
     have pd : ∀ p ∈ [(D, ({ cls := .type "list", data := .seq its.toArray c } : Obj))], p.1 = D := fun p hp => by obtain rfl : p = (D, { cls := .type "list", data := .seq its.toArray c }) := (by simpa using hp); rfl
     have q := T.item X' eP ew eK ec i _ s' (σ0 :: σ) H' (notedBy (model X.prog X.w) X.A (compEnvC scope (iY X.env scope.names []) C X.env) fun e s' => RR (.ref D) C (.error e) s') FT (FQ pd fr') st' go
     rw [eA] at q
     refine Ux ht' q (fun r s4 ht4 ⟨u, hr, h4⟩ => ?_)
     subst hr
     refine Ux ht4 h4 (fun _ s5 ht5 ⟨xv, H5, I5, r5, y5, MF, Xx⟩ => ?_)
     have I5' := I5.pinned (FQ pd Xx) (T.obj _ _ MF)
     refine wpAny_assign_Name ?_
     rw [← Ax]
     refine thI ht5 (tu I5' hNd hx0 (.inl hxl) r5 (fun s6 I6 => fun ht6 => ?_) (.inr hxl))
     have te6 := step xv H5 y5
     have q6 := (he C s₂ H₂ fp) (([(D, ({ cls := .type "list", data := .seq its.toArray c } : Obj))]) ++ tG fp s5.heap) s6 (some xv :: σ) H5 (fun v Df => W (i + 1) (ys ++ [v]) Df) (by rw [hX']; exact I6) ht6 te6
     rw [hX', eP, ew, eA] at q6
     refine wpAny_mono (wpAny_toks_of ht6 q6) (fun u7 s7 ⟨ht7, v7, H7, I7, r7, w7⟩ => ?_) (fun _ _ z => by subst hX'; exact (show False from z.2).elim)
     obtain ⟨e7, n7, _⟩ := I7.pin (D, { cls := .type "list", data := .seq its.toArray c }) (List.mem_append_right _ (List.mem_append_left _ (by simp)))
     refine append_at (hsz := by rw [List.size_toArray, ← rv.length, hyl]; exact Nat.le_trans hi hsz) e7 fun h8 ZD g8 => ?_
     have I8 : Inv X' [] (some xv :: σ) H7 { s7 with heap := h8, toks := s7.toks } := (I7.iB (JH := []) fun p hp => absurd hp (by simp)).turned (t' := s7.toks) (it := D) (fun b o hb e => (ZD.2 b hb).trans e) n7 (by rw [eL]; exact hDC) (.inr (by rw [Zz, vK]; exact Nat.le_refl _))
       (Ng (H' := H7) (pn := []) (Nat.le_refl _) hDC n7 (fun p hp => absurd hp (by simp))).2.2.2.2.1 (fun p hp => by rw [Vn] at hp; exact absurd hp (by simp))
     refine ⟨n + 1 - (i + 1), by omega, i + 1, ys ++ [v7], its ++ [u7], some xv, H7, hlt, rfl, by rw [List.length_append, List.length_singleton, hyl], I8, ?_, fun b hb => ?_, n7, rv.append (.cons r7 .nil), ⟨c + 1, ?_⟩, w7, ht7⟩
     · refine T.keep _ _ _ MF fun b hb o e => ?_
       have e' := (I7.pin (b, o) (List.mem_append_right _ (List.mem_append_right _ (yX hb e)))).1
       exact (ZD.2 b (fun z => Dfp (z ▸ hb))).trans e'
     · obtain ⟨o, e, d⟩ := T.obj _ _ MF b hb
       exact (I7.pin (b, o) (List.mem_append_right _ (List.mem_append_right _ (yX hb e)))).2.1
     · rw [g8, List.push_toArray]
 exact codeAny_compStart_list (loop _ rfl) (T.self X.A 0 _ _ _ st₁ (loop _ rfl))
theorem V8 {i : Nat} {y : Str} {spos py : Pos} (hN : X.N.Nodup) (hy : X.N[i]? = some y) (hl : Loc X.env.scope y) (K : cV X scope x M) (hc : X.calm = true) (hi : PI X (.Name x px) iter wi) (he : ∀ (C : Addr) (s₂ : Shared) (H₂ : Hp) (fp : List Addr), Yu (iZ X scope C x M s₂ H₂ fp) elt te)
   (hsw : swapsWith (.ListComp elt [⟨.Name x px, iter, [], 0⟩] scope pos) (some (.Name y py)) spos.line X.env = pure true := by rfl)
   (hs : ∀ x, foldedSetIterable iter X.env x = pure x := by intro _; rfl) (hf : X.fn y = true ∨ X.env.scope.names.lookup y = some .local := by first | exact .inl rfl | exact .inr rfl | assumption) :
   Yv X (.Assign [.Name y py] (.ListComp elt [⟨.Name x px, iter, [], 0⟩] scope pos) spos) (S9 (Vm wi te) (gf i)) := by
 intro pins s σ H Dn I hn h
 rw [exec_Assign_Name_used _ _ _ _ hsw]
 refine wpAny_bind (wpAny_standAt (wpAny_bind ?_))
 show wpAny _ X.A (do let _ ← comprehension (.ListComp elt [⟨.Name x px, iter, [], 0⟩] scope pos) scope X.env _ (newList []) false (eval iter X.env) (some (assign (.Name y py) X.env))) _ _ s
 refine wpAny_bind (eY (wpAny_comprehension_free (use := some (assign (.Name y py) X.env)) (Q := fun _ s' => SP X pins Dn .next s') rfl hs (K.closure I.ok) K.kind K.names (Ux hn (hi pins s σ H _ I h) fun v s1 hn1 h1 => Ux hn1 h1 fun itv s2 hn2 h2 => ?_)) fun _ s' hq => wpAny_pure (wpAny_pure hq))
 obtain ⟨it, fp, tn, J, H2, e, I2, T, st2, f2, n, W, hsz, w0, turn⟩ := h2
 subst e
 refine Oc (RR := fun acc C => compPost (model X.prog X.w) X.A X.xe (some (assign (.Name y py) X.env)) (fun _ s' => SP X pins Dn .next s') acc C) K hc I2 hn2 he T st2 f2 hsz (F := fun ys H => ∀ p, H p = none → Dn.nx (σ.set i (some (.ref p))) (upd H p (.lst ys))) w0 turn ?_
 intro D C s' H' ys m I' n' fC ns fin
 refine wpAny_assign_Name (Aq (v := .ref D) I' hN hy hl rfl (fun s'' I'' ch => ?_) hf)
 obtain ⟨f0, f1, f2, f3, f4, f5⟩ := fC
 obtain ⟨a, sb1, ha⟩ := ch
 have hCa : C ≠ a := by
   rcases ha with z | z
   · rw [z]; exact f1
   · exact Ne.symm (f4 y a z)
 refine ⟨m, ns.sameBut sb1 hCa, fun h' sb => ?_⟩
 exact ⟨_, _, I''.turned (t' := s''.toks) (it := C) (fun b o hb e => (sb.2 b hb).trans e) f0 f1 f3 f4 f5, fin D n'⟩
theorem TY {i : Nat} {y : Str} {spos py : Pos} (hN : X.N.Nodup) (hy : X.N[i]? = some y) (hl : Loc X.env.scope y) (K : cV X scope x M) (hc : X.calm = true) (hi : PI X (.Name x px) iter wi) (he : ∀ (C : Addr) (s₂ : Shared) (H₂ : Hp) (fp : List Addr), Yu (iZ X scope C x M s₂ H₂ fp) elt te)
   (hsw : swapsWith (.ListComp elt [⟨.Name x px, iter, [], 0⟩] scope pos) (some (.Name y py)) spos.line X.env = pure true := by rfl)
   (hs : ∀ x, foldedSetIterable iter X.env x = pure x := by intro _; rfl) (hf : X.fn y = true ∨ X.env.scope.names.lookup y = some .local := by first | exact .inl rfl | exact .inr rfl | assumption) :
   Yv X (.Assign [.Name y py] (.ListComp elt [⟨.Name x px, iter, [], 0⟩] scope pos) spos) (S9 (Qp wi te) (gf i)) := by
 intro pins s σ H D I hn h
 have q := V8 (pos := pos) (spos := spos) hN hy hl K hc (wi := fun σ0 H0 R0 => ∃ R, wi σ0 H0 R ∧ ∀ J H1, R J H1 → R0 J H1) (yf hi fun σ H R ⟨R1, a, b⟩ => ⟨R1, a, b⟩) he hsw hs hf pins s σ H D I hn
 exact q ⟨_, h, fun J H1 r => r.ex⟩
end
section
variable {X : Cx} {pos : Pos} {a b e : Expr} {es : List Expr} {ta tb te : TE} {t : TA} {st : Stmt} {rest : List Stmt}
theorem PS.made {t : TS} (h : PS X st t) : Yv X st t := fun pins s σ H D I _ q => h pins s σ H D I q
theorem jG.made {t : TS} (h : jG X rest t) : wF X rest t := fun pins s σ H D I _ q => h pins s σ H D I q
theorem PA.made (h : PA X es t) : PAp X es t := fun pos pins s σ H Q I _ q => h pos pins s σ H Q I q
theorem Gm {t u : TS} (h1 : Yv X st t) (h2 : wF X rest u) : wF X (st :: rest) (U0 t u) := by
 intro pins s σ H D I hn h
 refine wpAny_execs_cons (Ux hn (h1 pins s σ H { D with nx := u D } I hn h) fun f s1 hn1 q => ?_)
 cases f with
 | next =>
   obtain ⟨σ', H', I', q⟩ := q
   exact h2 pins s1 σ' H' D I' hn1 q
 | ret v => exact q
 | brk => exact q
 | cont => exact q
theorem aa5 {c : Expr} {a b : List Stmt} {tc : TT} {t u : TS} (hc : PT X c tc) (ha : wF X a t) (hb : wF X b u) : Yv X (.If c a b pos) (aaA tc t u) := by
 intro pins s σ H D I hn h
 refine wpAny_If (Ux hn (hc pins s σ H _ I h) fun d s1 hn1 ⟨H1, I1, q1⟩ => ?_)
 cases d with
 | true => exact ha pins s1 σ H1 D I1 hn1 q1
 | false => exact hb pins s1 σ H1 D I1 hn1 q1
theorem YC {x j pos} : PEm X (.Constant (.str x) j pos) (tC (.str x)) := fun _ s _ H _ I h => Calls.Constant_str ⟨by show 1 ≤ s.toks + 1; omega, .str x, H, I.tok _, ⟨_, rfl⟩, h⟩
def PTm (X : Cx) (e : Expr) (t : TT) : Prop :=
 ∀ (pins : List (Addr × Obj)) (s : Shared) (σ : St) (H : Hp) (Q : Bool → Hp → Prop), Inv X pins σ H s → t σ H Q → wpAny (model X.prog X.w) X.A (isTrue e X.env (eval e X.env)) (fun d s' => 1 ≤ s'.toks ∧ TP X pins σ Q d s') X.xe s
theorem V9 {op : CmpOp} {r : R2} (ho : ir X (compareOp op) r) (ha : PE X a ta) (hb : PEm X b tb) (hm : behindInMarks op b = false) : PTm X (.Compare a [op] [b] pos) (U9 (XS r ta tb)) := by
 intro pins s σ H Q I h
 refine wpAny_isTrue_Compare1 (eY (ha pins s σ H _ I h) fun v s1 ⟨x, H1, I1, r1, q1⟩ => eY (hb pins s1 σ H1 _ I1 q1) fun u s2 ⟨hn, y, H2, I2, r2, q2⟩ =>
   Ux hn (ho pins s2 σ H2 x y v u _ I2 r1 r2 q2) fun c s3 hn3 ⟨z, H3, I3, r3, k, e, q3⟩ => ?_) hm
 subst e
 cases r3
 exact wpAny_truthy_bool ⟨hn3, H3, I3, q3⟩
theorem YD {c : Expr} {a b : List Stmt} {tc : TT} {t u v : TS} (hc : PTm X c tc) (ha : wF X a t) (hb : wF X b u) (hr : wF X rest v) : jG X (.If c a b pos :: rest) (U0 (aaA tc t u) v) := by
 intro pins s σ H D I h
 have key : wpAny (model X.prog X.w) X.A (exec (.If c a b pos) X.env) (fun f s' => 1 ≤ s'.toks ∧ SP X pins { D with nx := v D } f s') X.xe s := by
   refine wpAny_If (eY (hc pins s σ H _ I h) fun d s1 ⟨hn1, H1, I1, q1⟩ => ?_)
   cases d with
   | true => exact Ux hn1 (ha pins s1 σ H1 { D with nx := v D } I1 hn1 q1) fun _ _ hn q => ⟨hn, q⟩
   | false => exact Ux hn1 (hb pins s1 σ H1 { D with nx := v D } I1 hn1 q1) fun _ _ hn q => ⟨hn, q⟩
 refine wpAny_execs_cons (eY key fun f s1 ⟨hn, q⟩ => ?_)
 cases f with
 | next =>
   obtain ⟨σ', H', I', q⟩ := q
   exact hr pins s1 σ' H' D I' hn q
 | ret v => exact q
 | brk => exact q
 | cont => exact q
end
end L2
namespace L2
open PySem PySem.Spec PyProof.Rows PySem.Calls
end L2
namespace L2
open PySem PySem.Spec PyProof.Rows PySem.Calls
section
variable {X : Cx} {pins : List (Addr × Obj)} {σ : St} {H : Hp} {s : Shared} {h' : Heap}
theorem Inv.RQ {t' : Nat} {L : List Addr} (I : Inv X pins σ H s) (k : ∀ b o, b ∉ L → s.heap.get? b = some o → h'.get? b = some o) (hL : ∀ b ∈ L, lJ X pins H b) : Inv X pins σ H { s with heap := h', toks := t' } := by
 have nit : ∀ b u, H b = some u → b ∉ L := fun b u e z => by have := (hL b z).1; rw [this] at e; cases e
 refine I.step (g' := s.gens) (d' := s.drawn) (ch := L) (fun b hb => ?_) (fun b o _ _ hc e _ => k b o hc e) (fun b o _ _ hc e _ => ⟨o.slots, k b o hc e⟩) (fun _ _ _ _ n => n)
   (fun b o hc e => ⟨o, k b o hc e⟩) (fun _ _ e => e) (fun _ _ _ e => e) (fun b ps e => ⟨#[], by rw [e]; simp⟩) (fun m hm => ?_) (fun b u e => ?_) I.bare
 · obtain ⟨f0, f1, f2, f3, f4, f5⟩ := hL b hb
   exact ⟨f3, f1, f4, f5⟩
 · obtain ⟨o, es, ep, ho, r⟩ := hm
   exact ⟨o, es, ep, k _ o (fun z => (hL _ z).2.1 rfl) ho, r⟩
 · refine (I.hok b u e).stay (fun c v hc q => k c v ?_ q) (fun _ q => q) fun _ _ q => q
   rcases hc with z | z
   · rw [z]; exact nit b u e
   · exact nit c _ z
end
def Itz (K : PySem.W.Frag) (a b : Addr) : It :=
 ⟨fun i H => ∃ xs ys x y, bz K H a xs ∧ bz K H b ys ∧ xs[i]? = some x ∧ ys[i]? = some y,
  fun i H z H' => ∃ T x y, z = .ref T ∧ H T = none ∧ H' = upd H T (.tup [x, y]) ∧ (∀ xs, bz K H a xs → xs[i]? = some x) ∧ ∀ ys, bz K H b ys → ys[i]? = some y,
  fun i H => ∃ xs ys, bz K H a xs ∧ bz K H b ys ∧ (xs.length ≤ i ∨ ys.length ≤ i)⟩
def apr (z TI TO i1 i2 a b : Addr) (i : Nat) (h : Heap) : Prop := IsZip h z TI TO .none ∧ IsPair h TI (.ref i1) (.ref i2) ∧ (∃ u v, IsPair h TO u v) ∧ h.IsListIter i1 a i ∧ h.IsListIter i2 b i
theorem Wa {P : Program} {w : World} {K : PySem.W.Frag} {elts : List Expr} {x1 : Nat} {tp : Pos} {z TI TO i1 i2 a b : Addr} (D : ZipApart z TI TO i1 i2 a b) : Turn P w K (.Tuple elts x1 tp) (Itz K a b) [z, TI, TO, i1, i2] z (apr z TI TO i1 i2 a b) where
 mem := by simp
 obj := fun i h st c hc => by
   obtain ⟨h1, h2, ⟨u, v, h3⟩, h4, h5⟩ := st
   simp only [List.mem_cons, List.not_mem_nil, or_false] at hc
   rcases hc with e | e | e | e | e
   · subst e; exact ⟨_, h1, fun v q => by cases q⟩
   · subst e; exact ⟨_, h2, fun v q => by cases q⟩
   · subst e; exact ⟨_, h3, fun v q => by cases q⟩
   · subst e; obtain ⟨o, e, c, d⟩ := h4; exact ⟨o, e, fun v q => by rw [d] at q; cases q⟩
   · subst e; obtain ⟨o, e, c, d⟩ := h5; exact ⟨o, e, fun v q => by rw [d] at q; cases q⟩
 keep := fun i h h' st k => by
   obtain ⟨h1, h2, ⟨u, v, h3⟩, h4, h5⟩ := st
   exact ⟨k _ (by simp) _ h1, k _ (by simp) _ h2, ⟨u, v, k _ (by simp) _ h3⟩, h4.at fun o e => k i1 (by simp) o e, h5.at fun o e => k i2 (by simp) o e⟩
 item := by
   intro X hP hw hK hc i pins s σ H E I hf st hg
   subst hP hw hK
   obtain ⟨xs, ys, x, y, hq, hq2, hx, hy⟩ := hg
   obtain ⟨h1, h2, ⟨u0, v0, h3⟩, h4, h5⟩ := st
   obtain ⟨its, rv, p, hz⟩ := I.list hq
   obtain ⟨its2, rv2, p2, hz2⟩ := I.list hq2
   obtain ⟨u, hu, ru⟩ := rv.get hx
   obtain ⟨v, hv, rv'⟩ := rv2.get hy
   refine wpAny_pyNext_zip_item D h1 h2 h3 h4 h5 p.isList p2.isList (x := u) (y := v) (by simpa using hu) (by simpa using hv) fun h' a1 a2 a3 a4 a5 a6 a7 => ?_
   refine ⟨_, rfl, wpAny_letOwnedTupleGo_zip (s := { s with heap := h' }) a1 fun h'' b1 b2 => ?_⟩
   have hT : H s.heap.objs.size = none := I.hok.fresh (Nat.le_refl _)
   have lt : ∀ c ∈ [z, TI, TO, i1, i2], c < s.heap.objs.size := fun c hc => by
     simp only [List.mem_cons, List.not_mem_nil, or_false] at hc
     rcases hc with e | e | e | e | e
     · subst e; exact Heap.lt_size h1
     · subst e; exact Heap.lt_size h2
     · subst e; exact Heap.lt_size h3
     · subst e; obtain ⟨o, e, _⟩ := h4; exact Heap.lt_size e
     · subst e; obtain ⟨o, e, _⟩ := h5; exact Heap.lt_size e
   have kk : ∀ c o, c ∉ [z, TI, TO, i1, i2] → s.heap.get? c = some o → h''.get? c = some o := fun c o hc e => by
     simp only [List.mem_cons, List.not_mem_nil, or_false, not_or] at hc
     exact (b2.2 c hc.1).trans (a7 c o hc.1 hc.2.2.1 hc.2.2.2.1 hc.2.2.2.2 e)
   have I1 : Inv X pins σ H { s with heap := h'' } := I.RQ (t' := s.toks) kk hf
   have zT : s.heap.objs.size ≠ z := fun e => Nat.lt_irrefl _ (e ▸ lt z (by simp))
   have a5' : IsPair h'' s.heap.objs.size u v := (b2.2 _ zT).trans a5
   have I2 := I1.track (a := s.heap.objs.size) (o := .tup [x, y]) (I.Kv (Nat.le_refl _) hT) I.sz ⟨by show 2 ≤ sizeLine; decide, [u, v], .cons ru (.cons rv' .nil), ⟨_, a5', rfl, _, rfl⟩⟩
   refine ⟨.ref s.heap.objs.size, _, I2, rfl, ⟨_, x, y, rfl, hT, rfl, fun zs hzs => by rw [I.Fp hzs hq]; exact hx, fun zs hzs => by rw [I.Fp hzs hq2]; exact hy⟩, ⟨b1, (b2.2 _ D.TIz).trans (a7 _ _ D.TIz D.TITO D.TIi1 D.TIi2 h2), ⟨u, v, (b2.2 _ D.TOz).trans a2⟩, a3.at fun o e => (b2.2 _ D.i1z).trans e, a4.at fun o e => (b2.2 _ D.i2z).trans e⟩, fun c hc => ?_⟩
   rw [zP (Nat.ne_of_lt (lt c hc))]; exact (hf c hc).1
 done := by
   intro X hP hw hK hc i pins s σ H E I hf st hg
   subst hP hw hK
   obtain ⟨xs, ys, hq, hq2, hx⟩ := hg
   obtain ⟨h1, h2, ⟨u0, v0, h3⟩, h4, h5⟩ := st
   obtain ⟨its, rv, p, hz⟩ := I.list hq
   obtain ⟨its2, rv2, p2, hz2⟩ := I.list hq2
   have hl := rv.length
   have hl2 := rv2.length
   refine wpAny_pyNext_zip_end (I.ok.hd hc) D h1 h2 h3 h4 h5 p.isList p2.isList ?_ fun h' a7 => ⟨rfl, I.RQ (t' := s.toks) (fun c o hc e => ?_) hf⟩
   · rcases hx with hx | hx
     · exact .inl (by simp; omega)
     · exact .inr (by simp; omega)
   · simp only [List.mem_cons, List.not_mem_nil, or_false, not_or] at hc
     exact a7 c o hc.1 hc.2.2.1 hc.2.2.2.1 hc.2.2.2.2 e
 self := fun _ _ _ _ _ st h => wpAny_pyIter_zip st.1 h
section
variable {X : Cx} {ea eb : Expr} {t : TA} {p pos tp : Pos} {elts : List Expr} {x1 : Nat}
def aps (K : PySem.W.Frag) (t : TA) : TI := fun σ H R => t σ H fun vs H1 => ∃ a b, vs = [.ref a, .ref b] ∧ (∃ xs, bz K H1 a xs) ∧ (∃ ys, bz K H1 b ys) ∧ R (Itz K a b) H1
theorem boot_zip : bootBuiltins "zip" = some (.type "zip") := by symm
theorem aa6 (hg : Gl X "zip") (hm : X.mg "zip" = none) (ha : PA X [ea, eb] t) (hs : starEach [ea, eb] X.env = [(false, eval ea X.env), (false, eval eb X.env)] := by rfl) (hs2 : starEach [eb] X.env = [(false, eval eb X.env)] := by rfl) :
   PI X (.Tuple elts x1 tp) (.Call (.Name "zip" p) [ea, eb] [] pos) (aps X.K t) := by
 intro pins s σ H R I h
 refine Call_ (Fo I hg hm boot_zip (PyProof.Rows.callWith_type1 (eY (ha pos pins s σ H _ I h) fun us s1 ⟨vs, H1, I1, r1, q1⟩ => ?_) (by rw [hs, hs2]) (by rw [hs2]; rfl)))
 obtain ⟨a, b, e, ⟨xs, hq⟩, ⟨ys, hq2⟩, q⟩ := q1
 subst e
 cases r1 with
 | cons r rr =>
   cases rr with
   | cons r' rr' =>
     cases rr'
     cases r
     cases r'
     obtain ⟨its, rv, pl, hz⟩ := I1.list hq
     obtain ⟨its2, rv2, pl2, hz2⟩ := I1.list hq2
     have l1 : a < s1.heap.objs.size := by obtain ⟨_, e, _⟩ := pl.isList; exact Heap.lt_size e
     have l2 : b < s1.heap.objs.size := by obtain ⟨_, e, _⟩ := pl2.isList; exact Heap.lt_size e
     refine call_zip_2 pl.isList pl2.isList fun h' z1 z2 z3 z4 z5 z6 z7 => ?_
     refine wpAny_pyIter_zip (s := { s1 with heap := h' }) z1 ?_
     have I2 : Inv X pins σ H1 { s1 with heap := h' } := I1.kept (t' := s1.toks) z7
     refine ⟨_, [s1.heap.objs.size + 4, s1.heap.objs.size + 2, s1.heap.objs.size + 3, s1.heap.objs.size, s1.heap.objs.size + 1], _, _, H1, rfl, I2, Wa (zipApart_new l1 l2), ⟨z1, z2, ⟨_, _, z3⟩, z4, z5⟩, fun c hc => ?_, q⟩
     have hle : s1.heap.objs.size ≤ c := by
       simp only [List.mem_cons, List.not_mem_nil, or_false] at hc
       rcases hc with e | e | e | e | e
       · rw [e]; exact Nat.le_add_right _ _
       · rw [e]; exact Nat.le_add_right _ _
       · rw [e]; exact Nat.le_add_right _ _
       · rw [e]; exact Nat.le_refl _
       · rw [e]; exact Nat.le_add_right _ _
     exact I1.Kv hle (I1.hok.fresh hle)
end
theorem Wb {K : PySem.W.Frag} {a b : Addr} {xs ys : List V} {g : TG} {tb : TS} {D : Ends} {σ : St} {H : Hp} (hl : xs.length = ys.length) (Pv : Nat → St → Hp → Prop) (h0 : Pv 0 σ H) (hq : ∀ i σ H, i ≤ xs.length → Pv i σ H → bz K H a xs ∧ bz K H b ys)
   (hs : ∀ i x y σ H, xs[i]? = some x → ys[i]? = some y → Pv i σ H → ∀ T, H T = none → g (.ref T) σ (upd H T (.tup [x, y])) fun σ2 H2 => tb { D with nx := Pv (i + 1), ct := Pv (i + 1), bk := D.nx } σ2 H2) (hd : ∀ σ H, Pv xs.length σ H → D.nx σ H) : Yi (Itz K a b) g tb D σ H := by
 refine ⟨fun i m σ H => i ≤ xs.length ∧ m = xs.length - i ∧ Pv i σ H, ⟨_, Nat.zero_le _, rfl, h0⟩, fun i m σ H ⟨hi, hm, hp⟩ => ?_⟩
 obtain ⟨q1, q2⟩ := hq i σ H hi hp
 by_cases c : i = xs.length
 · subst c
   exact .inl ⟨⟨xs, ys, q1, q2, .inl (Nat.le_refl _)⟩, hd σ H hp⟩
 · have hlt : i < xs.length := by omega
   have hx : xs[i]? = some xs[i] := List.getElem?_eq_getElem hlt
   have hlt2 : i < ys.length := by omega
   have hy : ys[i]? = some ys[i] := List.getElem?_eq_getElem hlt2
   refine .inr ⟨⟨xs, ys, _, _, q1, q2, hx, hy⟩, Pv (i + 1), fun σ' H' hn => ⟨xs.length - (i + 1), by omega, by omega, rfl, hn⟩, fun z H' hz => ?_⟩
   obtain ⟨T, x, y, rfl, hT, rfl, e1, e2⟩ := hz
   exact hs i x y σ H (e1 xs q1) (e2 ys q2) hp T hT
end L2
namespace L2
open PySem PySem.Spec PyProof.Rows PySem.Calls
end L2
namespace L2
open PySem PySem.Spec PyProof.Rows
def q9 (l : List Nat) : List Nat := List.replicate (3 - l.length) 48 ++ l
def dU (n : Int) : List Nat := q9 (dig n.natAbs)
def sgn (n : Int) : List Nat := if n < 0 then [45] else []
def cU (n : Int) : List Nat := sgn n ++ ((dU n).take ((dU n).length - 2) ++ 46 :: (dU n).drop ((dU n).length - 2))
def isF (c : Nat) : Prop := 48 ≤ c ∧ c ≤ 57
theorem qe (l : List Nat) : 3 ≤ (q9 l).length ∧ (q9 l).length = max 3 l.length := by
 unfold q9; rw [List.length_append, List.length_replicate]; omega
theorem yq {n : Int} {c : Nat} (h : c ∈ dU n) : isF c := by
 unfold dU q9 at h
 rcases List.mem_append.mp h with h | h
 · rw [(List.mem_replicate.mp h).2]; exact ⟨by decide, by decide⟩
 · exact mK h
theorem YF (k : Nat) (l : List Nat) : val (List.replicate k 48 ++ l) = val l := by
 induction k with
 | zero => rfl
 | succ k ih => rw [List.replicate_succ, List.cons_append]; unfold val; rw [List.foldl_cons]; exact ih
theorem Wc (n : Int) : val (dU n) = n.natAbs := by unfold dU q9; rw [YF, RN]
theorem T3 {n : Int} (h : (dU n).head? = some 48) : (dU n).length = 3 := by
 have hl := (qe (dig n.natAbs)).2
 by_cases h3 : (dig n.natAbs).length ≤ 3
 · show (q9 _).length = 3; omega
 · exfalso
   have e : dU n = dig n.natAbs := by unfold dU q9; rw [show 3 - (dig n.natAbs).length = 0 by omega]; rfl
   rw [e] at h
   by_cases h0 : n.natAbs = 0
   · rw [h0, NB] at h3; simp at h3
   · obtain ⟨c, r, ec, hc, _⟩ := Nz h0
     rw [ec] at h
     have : c = 48 := by simpa using h
     omega
theorem qg (n : Int) : ∃ a x y, cU n = sgn n ++ (a ++ [46, x, y]) ∧ dU n = a ++ [x, y] ∧ a ≠ [] ∧ (∀ c ∈ a, isF c) ∧ isF x ∧ isF y ∧ (a.head? = some 48 → a = [48]) := by
 have hl : 3 ≤ (dU n).length := (qe _).1
 have hd : ((dU n).drop ((dU n).length - 2)).length = 2 := by rw [List.length_drop]; omega
 obtain ⟨x, y, e⟩ : ∃ x y, (dU n).drop ((dU n).length - 2) = [x, y] := by
   match h : (dU n).drop ((dU n).length - 2), hd with
   | [x, y], _ => exact ⟨x, y, rfl⟩
 have ea : dU n = (dU n).take ((dU n).length - 2) ++ [x, y] := by rw [← e, List.take_append_drop]
 have ht : ((dU n).take ((dU n).length - 2)).length = (dU n).length - 2 := by rw [List.length_take]; omega
 refine ⟨(dU n).take ((dU n).length - 2), x, y, ?_, ea, ?_, fun c hc => yq (List.mem_of_mem_take hc), yq (n := n) (by rw [ea]; simp), yq (n := n) (by rw [ea]; simp), fun h => ?_⟩
 · unfold cU; rw [e]
 · intro z; rw [z] at ht; simp at ht; omega
 · have h1 : (dU n).head? = some 48 := by
     rw [ea]
     cases hh : (dU n).take ((dU n).length - 2) with
     | nil => rw [hh] at h; cases h
     | cons c r => rw [hh] at h; exact h
   have h3 := T3 h1
   rw [h3] at h ht ⊢
   match hh : (dU n).take (3 - 2), ht with
   | [c], _ => rw [hh] at h; have : c = 48 := by simpa using h
               rw [this]
theorem YG {n : Int} {c : Nat} (h : c ∈ sgn n) : c = 45 := by unfold sgn at h; split at h; exact List.mem_singleton.mp h; cases h
theorem J5 {n : Int} {c : Nat} (h : c ∈ cU n) : c = 45 ∨ c = 46 ∨ isF c := by
 obtain ⟨a, x, y, e, _, _, ha, hx, hy, _⟩ := qg n
 rw [e] at h
 rcases List.mem_append.mp h with h | h
 · exact .inl (YG h)
 · rcases List.mem_append.mp h with h | h
   · exact .inr (.inr (ha c h))
   · simp only [List.mem_cons, List.not_mem_nil, or_false] at h
     rcases h with h | h | h
     · exact .inr (.inl h)
     · rw [h]; exact .inr (.inr hx)
     · rw [h]; exact .inr (.inr hy)
theorem YH (n : Int) : 4 ≤ (cU n).length := by
 obtain ⟨a, x, y, e, _, ha, _⟩ := qg n
 rw [e, List.length_append, List.length_append]
 have : 0 < a.length := List.length_pos_iff.mpr ha
 simp only [List.length_cons, List.length_nil]; omega
def gA (l : List Nat) : List Nat := (l.filter (· != 45)).filter (· != 46)
def mL (l : List Nat) : Option Int := if (gA l).length = 0 ∨ (gA l).all inF = false ∨ 60 < (gA l).length then none else if cU (if l.take 1 = [45] then -val (gA l) else val (gA l)) = l then some (if l.take 1 = [45] then -val (gA l) else val (gA l)) else none
theorem Od {l : List Nat} (h : ∀ c ∈ l, isF c) : gA l = l := by
 unfold gA
 have e1 : l.filter (· != 45) = l := List.filter_eq_self.mpr fun c hc => by have := h c hc; unfold isF at this; simp; omega
 rw [e1]
 exact List.filter_eq_self.mpr fun c hc => by have := h c hc; unfold isF at this; simp; omega
theorem Gn (a b : List Nat) : gA (a ++ b) = gA a ++ gA b := by unfold gA; rw [List.filter_append, List.filter_append]
theorem We (n : Int) : gA (cU n) = dU n := by
 obtain ⟨a, x, y, e, ef, ha, hc, hx, hy, _⟩ := qg n
 have e1 : gA (sgn n) = [] := by unfold sgn; split <;> rfl
 have e2 : gA [46, x, y] = [x, y] := by
   rw [show [46, x, y] = [46] ++ [x, y] from rfl, Gn, show gA [46] = [] from rfl, List.nil_append]
   exact Od fun c hc => by simp only [List.mem_cons, List.not_mem_nil, or_false] at hc; rcases hc with e | e <;> rw [e] <;> assumption
 rw [e, Gn, Gn, e1, Od hc, e2, ef, List.nil_append]
theorem Oe (n : Int) : (cU n).take 1 = [45] ↔ n < 0 := by
 obtain ⟨a, x, y, e, ef, ha, hc, hx, hy, _⟩ := qg n
 rw [e]
 unfold sgn
 split
 · rename_i h; exact ⟨fun _ => h, fun _ => rfl⟩
 · rename_i h
   refine ⟨fun z => ?_, fun z => absurd z h⟩
   cases a with
   | nil => exact absurd rfl ha
   | cons b a =>
     have : b = 45 := by simpa using z
     have hb := hc b (by simp)
     unfold isF at hb; omega
theorem Wf {n : Int} (h : n.natAbs < 10 ^ 60) : mL (cU n) = some n := by
 unfold mL
 rw [We, Wc]
 have hl := qe (dig n.natAbs)
 have hd := uW (k := 60) (by decide) h
 have hh : (if (cU n).take 1 = [45] then -((n.natAbs : Nat) : Int) else ((n.natAbs : Nat) : Int)) = n := by
   by_cases hn : n < 0
   · rw [if_pos ((Oe n).mpr hn)]; omega
   · rw [if_neg (fun z => hn ((Oe n).mp z))]; omega
 rw [hh, if_neg, if_pos rfl]
 rintro (z | z | z)
 · have : (dU n).length = (q9 (dig n.natAbs)).length := rfl
   omega
 · rw [List.all_eq_false] at z
   obtain ⟨c, hc, k⟩ := z
   exact k ((qY c).mpr (yq hc))
 · have : (dU n).length = (q9 (dig n.natAbs)).length := rfl
   omega
theorem Gp {n : Int} (h : n.natAbs < 10 ^ 60) : bN 65 (S (cU n)) := by
 refine ⟨?_, fun c hc => ?_⟩
 · obtain ⟨a, x, y, e, ef, _⟩ := qg n
   have hl := (qe (dig n.natAbs)).2
   have hd := uW (k := 60) (by decide) h
   have e3 := congrArg List.length ef
   rw [List.length_append] at e3
   have e4 : (dU n).length = (q9 (dig n.natAbs)).length := rfl
   rw [zW, e, List.length_append, List.length_append]
   have e5 : (sgn n).length ≤ 1 := by unfold sgn; split <;> simp
   simp only [List.length_cons, List.length_nil] at e3 ⊢
   omega
 · rw [dq] at hc
   rcases J5 hc with z | z | z
   · omega
   · omega
   · unfold isF at z; omega
theorem J6 {n : Int} : (∀ c, (cU n).head? = some c → c ≠ 32) ∧ (∀ c, (cU n).getLast? = some c → c ≠ 32) := by
 have k : ∀ c ∈ cU n, c ≠ 32 := fun c hc => by rcases J5 hc with z | z | z; omega; omega; unfold isF at z; omega
 exact ⟨fun c hc => k c (List.mem_of_mem_head? hc), fun c hc => k c (List.mem_of_getLast? hc)⟩
theorem yr {c : Nat} : ∀ {ps : List (List Nat)}, (∀ p ∈ ps, c ∉ p) → (aR [c] ps).filter (· != c) = aR [] ps
 | [], _ => rfl
 | [x], h => List.filter_eq_self.mpr fun d hd => by
     have := h x (by simp)
     simp; intro z; subst z; exact this hd
 | x :: y :: r, h => by
   have hx : x.filter (· != c) = x := List.filter_eq_self.mpr fun d hd => by
     have := h x (by simp)
     simp; intro z; subst z; exact this hd
   show (x ++ [c] ++ aR [c] (y :: r)).filter (· != c) = x ++ [] ++ aR [] (y :: r)
   rw [List.filter_append, List.filter_append, hx, yr fun p hp => h p (List.mem_cons_of_mem _ hp)]
   simp
theorem wG (z : Str) (c : Nat) : cd (Txt.replace z (S [c]) (S [])) = (cd z).filter (· != c) := by
 have h1 : Txt.replace z (S [c]) (S []) = Str.join (S []) (Txt.split z (S [c])) := StrLaws.replace_one z (S []) c
 have h2 : Str.join (S [c]) (Txt.split z (S [c])) = z := StrLaws.join_split z (S [c])
 rw [h1, ← StrLaws.glued_eq_join, show Builtin.Str.glued (S []) (Txt.split z (S [c])) = FZ (S []) (Txt.split z (S [c])) from rfl, pZ, dq, dq]
 rw [← StrLaws.glued_eq_join, show Builtin.Str.glued (S [c]) (Txt.split z (S [c])) = FZ (S [c]) (Txt.split z (S [c])) from rfl, pZ] at h2
 have h3 := congrArg cd h2
 rw [dq, dq] at h3
 rw [← h3, yr]
 intro p hp
 obtain ⟨x, hx, rfl⟩ := List.mem_map.mp hp
 exact StrLaws.split_free z c x hx
end L2
namespace fX
open PySem L2
def top (i : Nat) : Stmt := PySem.Challenge.pw_askpaper_k21_fields.main.body.getD i (.Pass ⟨0, 0, 0, 0⟩)
abbrev bO : Stmt := inClass (top 2) 0
abbrev bA : Stmt := inClass (top 3) 0
abbrev aU : Stmt := inClass (top 4) 0
abbrev aX : Stmt := inClass (top 5) 0
abbrev aY : Stmt := inClass (top 6) 0
abbrev fZ : Stmt := top 20
abbrev aN : Stmt := top 21
abbrev cF : Stmt := top 22
abbrev bB : Stmt := top 23
abbrev dw : Stmt := top 24
abbrev aZ : Stmt := top 25
abbrev cG : Stmt := top 32
abbrev bC : Stmt := top 33
abbrev bD : Stmt := inClass (top 34) 0
abbrev bc : Stmt := inClass (top 35) 0
abbrev bQ : Stmt := inClass (top 35) 6
abbrev bF : Stmt := inClass (top 36) 2
abbrev bf : Stmt := inClass (top 36) 5
abbrev bR : Stmt := inClass (top 36) 6
abbrev bG : Stmt := inClass (top 37) 1
abbrev bT : Stmt := inClass (top 37) 2
abbrev bH : Stmt := inClass (top 38) 0
abbrev cH : Stmt := inClass (top 38) 6
abbrev bh : Stmt := inClass (top 39) 0
abbrev bU : Stmt := inClass (top 39) 6
abbrev cX : Stmt := top 40
abbrev bI : Stmt := top 41
abbrev aG : Stmt := top 42
abbrev bV : Stmt := top 43
abbrev bJ : Stmt := top 44
abbrev bW : Stmt := top 45
abbrev gb : Stmt := top 46
abbrev cI : Stmt := inClass (top 53) 0
abbrev cY : Stmt := inClass (top 53) 1
abbrev cZ : Stmt := inClass (top 53) 2
abbrev aO : Stmt := inClass (top 54) 0
abbrev aV : Stmt := inClass (top 54) 1
abbrev aW : Stmt := inClass (top 54) 2
abbrev bY : Stmt := inClass (top 55) 0
abbrev cJ : Stmt := inClass (top 55) 1
abbrev cL : Stmt := inClass (top 55) 2
abbrev bK : Stmt := inClass (top 56) 0
abbrev aK : Stmt := inClass (top 56) 1
abbrev bZ : Stmt := inClass (top 56) 2
abbrev b7 : Stmt := inClass (top 57) 0
abbrev bj : Stmt := inClass (top 58) 0
abbrev aH : Stmt := inClass (top 59) 0
abbrev aP : Stmt := inClass (top 59) 1
abbrev aA : Stmt := inClass (top 59) 2
abbrev dz : Stmt := top 60
abbrev dB : Stmt := top 61
abbrev dC : Stmt := top 62
abbrev cM : Stmt := top 63
abbrev cN : Stmt := top 65
abbrev dD : Stmt := top 66
abbrev eH : Stmt := top 67
abbrev eN : Stmt := top 68
abbrev dg : Stmt := top 69
abbrev dF : Stmt := top 70
abbrev dh : Stmt := top 71
abbrev eO : Stmt := top 72
abbrev eQ : Stmt := top 73
abbrev di : Stmt := top 74
abbrev eU : Stmt := top 75
abbrev aL : Stmt := top 76
abbrev bu : Stmt := top 77
abbrev bw : Stmt := top 78
abbrev yt : Stmt := top 79
structure dW where
 nF : Addr
 nG : FuncData
 nH : Addr
 jj : FuncData
 lK : List Value
 jJ : Addr
 gU : FuncData
 jk : List Value
 jK : Addr
 jL : FuncData
 jM : Addr
 jN : FuncData
 qi : Addr
 uZ : FuncData
 fO : Addr
 jb : FuncData
 j8 : Addr
 pF : FuncData
 iC : Addr
 lL : FuncData
 oV : Addr
 tQ : FuncData
 rm : List Value
 gW : Addr
 jO : FuncData
 j9 : Addr
 pG : FuncData
 iD : Addr
 lM : FuncData
 dX : Addr
 iG : FuncData
 jP : Addr
 jQ : FuncData
 nJ : Addr
 nM : FuncData
 iH : Addr
 iI : FuncData
 dJ : Addr
 fu : FuncData
 nO : Addr
 nP : FuncData
 iJ : Addr
 iK : FuncData
 nQ : Addr
 nR : FuncData
 lN : Addr
 lO : FuncData
 pH : Addr
 pI : FuncData
 jR : Addr
 jT : FuncData
 yu : List Value
 nT : Addr
 nU : FuncData
 mO : Addr
 rn : FuncData
 iM : Addr
 lQ : FuncData
 dY : Addr
 gB : FuncData
 jl : Addr
 nW : FuncData
 iQ : Addr
 lR : FuncData
 jm : Addr
 nY : FuncData
 vd : Addr
 Bb : FuncData
 pJ : Addr
 pK : FuncData
 nZ : List Value
 jn : Addr
 jo : FuncData
 jq : Addr
 jr : FuncData
 jc : Addr
 jd : FuncData
 dZ : Addr
 d7 : FuncData
 d8 : Addr
 d9 : FuncData
 n8 : Addr
 oh : FuncData
 iu : Addr
 iw : FuncData
 iy : Addr
 iz : FuncData
 iR : Addr
 lU : FuncData
 aQ : Addr
 bx : FuncData
 dN : Addr
 fB : FuncData
 gC : Addr
 gD : FuncData
 fD : Addr
 fG : FuncData
 gF : Addr
 gG : FuncData
 fQ : Addr
 fU : FuncData
 cA : Addr
 cB : FuncData
 oW : Addr
 tR : FuncData
 kZ : Addr
 oX : FuncData
 jg : Addr
 lq : FuncData
 kh : Addr
 pL : FuncData
 kj : Addr
 pM : FuncData
 oY : Addr
 tU : FuncData
 ou : Addr
 rA : FuncData
 rB : Addr
 wH : FuncData
 mQ : Addr
 rC : FuncData
 oZ : Addr
 tV : FuncData
 mR : Addr
 rD : FuncData
 rE : Addr
 wI : FuncData
 rF : Addr
 wJ : FuncData
 mU : Addr
 rG : FuncData
 rH : Addr
 wK : FuncData
 eZ : Addr
 il : FuncData
 gY : Addr
 jU : FuncData
 gZ : Addr
 jV : FuncData
 RT : Addr
 RV : FuncData
 Wg : Addr
 Gq : Addr
 mj : Addr
 jt : Addr
 fc : Addr
 cP : Addr
 eE : Addr
 vA : Addr
 Wh : Addr
 ju : Addr
 km : Addr
 yw : Addr
 jW : Addr
 fV : Addr
 oA : Addr
 apt : Addr
 iT : Addr
 jX : Addr
 Og : Addr
 aef : Addr
 jw : Addr
 jx : Addr
 az : Addr
 kE : Addr
structure Txt (K : W.Frag) (mg : Str → Option Value) (A : dW) : Prop where
 Gr : gq K "__init__" "Row.__init__" bO A.nF A.nG
 tW : Binds K A.nG ["self", "name"] []
 Gs : Dg K "__init__" "Ask.__init__" bA A.lK A.nH A.jj
 Gu : Binds K A.jj ["self", "name", "kind", "when"] []
 Di : Binds K A.jj ["self", "name", "kind", "when"] A.lK
 Dj : Vals [.non] A.lK
 Bc : Dg K "__init__" "Check.__init__" aU A.jk A.jJ A.gU
 Bd : Binds K A.gU ["self", "name", "test", "firm"] []
 yx : Binds K A.gU ["self", "name", "test", "firm"] A.jk
 yz : Vals [(.bl true)] A.jk
 Be : gq K "__init__" "Sheet.__init__" aX A.jK A.jL
 qj : Binds K A.jL ["self", "name", "each", "rows", "ways"] []
 Bf : gq K "__init__" "Paper.__init__" aY A.jM A.jN
 Bg : Binds K A.jN ["self", "name", "sheets", "totals"] []
 J7 : gq K "is_name" "is_name" fZ A.qi A.uZ
 vf : Binds K A.uZ ["thing"] []
 vg : W.keepIn K (.ref A.qi) = true
 vh : mg "is_name" = some (.ref A.qi)
 wM : gq K "are_unlike_names" "are_unlike_names" aN A.fO A.jb
 wN : Binds K A.jb ["words"] []
 wO : W.keepIn K (.ref A.fO) = true
 wQ : mg "are_unlike_names" = some (.ref A.fO)
 Ip : gq K "are_figures" "are_figures" cF A.j8 A.pF
 vN : Binds K A.pF ["text"] []
 vO : W.keepIn K (.ref A.j8) = true
 vP : mg "are_figures" = some (.ref A.j8)
 Dk : gq K "figures_worth" "figures_worth" bB A.iC A.lL
 sE : Binds K A.lL ["figures"] []
 sG : W.keepIn K (.ref A.iC) = true
 sI : mg "figures_worth" = some (.ref A.iC)
 Oh : Dg K "number_of" "number_of" dw A.rm A.oV A.tQ
 K5 : Binds K A.tQ ["text", "most"] A.rm
 K6 : Vals [(.int 60)] A.rm
 Oi : W.keepIn K (.ref A.oV) = true
 Oj : mg "number_of" = some (.ref A.oV)
 Bh : gq K "number_or_none" "number_or_none" aZ A.gW A.jO
 jY : Binds K A.jO ["text"] []
 jZ : W.keepIn K (.ref A.gW) = true
 j0 : mg "number_or_none" = some (.ref A.gW)
 Ir : gq K "money_shown" "money_shown" cG A.j9 A.pG
 vQ : Binds K A.pG ["hundredths"] []
 vR : W.keepIn K (.ref A.j9) = true
 vU : mg "money_shown" = some (.ref A.j9)
 Dl : gq K "money_or_none" "money_or_none" bC A.iD A.lM
 Dm : Binds K A.lM ["text"] []
 Dp : W.keepIn K (.ref A.iD) = true
 Dq : mg "money_or_none" = some (.ref A.iD)
 sJ : gq K "__init__" "Kind.__init__" bD A.dX A.iG
 fY : Binds K A.iG ["self", "low", "high"] []
 Bj : gq K "__init__" "YesNo.__init__" bc A.jP A.jQ
 Bk : Binds K A.jQ ["self"] []
 Gv : gq K "told" "YesNo.told" bQ A.nJ A.nM
 Gw : Binds K A.nM ["self"] []
 Dr : gq K "shown" "Whole.shown" bF A.iH A.iI
 Ds : Binds K A.iI ["self", "answer"] []
 Bl : gq K "bounds" "Whole.bounds" bf A.dJ A.fu
 ql : Binds K A.fu ["self"] []
 Gx : gq K "told" "Whole.told" bR A.nO A.nP
 Gy : Binds K A.nP ["self"] []
 Dt : gq K "shown" "Money.shown" bG A.iJ A.iK
 Du : Binds K A.iK ["self", "answer"] []
 Gz : gq K "told" "Money.told" bT A.nQ A.nR
 GC : Binds K A.nR ["self"] []
 Dv : gq K "__init__" "Pick.__init__" bH A.lN A.lO
 Dw : Binds K A.lO ["self", "words"] []
 Iu : gq K "told" "Pick.told" cH A.pH A.pI
 Iv : Binds K A.pI ["self"] []
 Bm : Dg K "__init__" "Names.__init__" bh A.yu A.jR A.jT
 Bo : Binds K A.jT ["self", "most"] []
 GD : gq K "told" "Names.told" bU A.nT A.nU
 GF : Binds K A.nU ["self"] []
 K7 : gq K "are_bounds" "are_bounds" cX A.mO A.rn
 za : Binds K A.rn ["numbers"] []
 zb : W.keepIn K (.ref A.mO) = true
 zc : mg "are_bounds" = some (.ref A.mO)
 Dy : gq K "whole_or_none" "whole_or_none" bI A.iM A.lQ
 Dz : Binds K A.lQ ["words"] []
 DG : W.keepIn K (.ref A.iM) = true
 DK : mg "whole_or_none" = some (.ref A.iM)
 tX : gq K "money_kind_or_none" "money_kind_or_none" aG A.dY A.gB
 tY : Binds K A.gB ["words"] []
 tZ : W.keepIn K (.ref A.dY) = true
 uc : mg "money_kind_or_none" = some (.ref A.dY)
 GJ : gq K "pick_or_none" "pick_or_none" bV A.jl A.nW
 GK : Binds K A.nW ["words"] []
 GP : W.keepIn K (.ref A.jl) = true
 GQ : mg "pick_or_none" = some (.ref A.jl)
 DN : gq K "names_or_none" "names_or_none" bJ A.iQ A.lR
 DP : Binds K A.lR ["words"] []
 DQ : W.keepIn K (.ref A.iQ) = true
 DR : mg "names_or_none" = some (.ref A.iQ)
 GR : gq K "kind_or_none" "kind_or_none" bW A.jm A.nY
 GX : Binds K A.nY ["first", "words"] []
 GZ : W.keepIn K (.ref A.jm) = true
 G3 : mg "kind_or_none" = some (.ref A.jm)
 T4 : gq K "kind_of" "kind_of" gb A.vd A.Bb
 J8 : Binds K A.Bb ["text"] []
 J9 : W.keepIn K (.ref A.vd) = true
 Ka : mg "kind_of" = some (.ref A.vd)
 Iw : Dg K "__init__" "Is.__init__" cI A.nZ A.pJ A.pK
 G4 : Binds K A.pK ["self", "name", "word", "place"] A.nZ
 G5 : Vals [.non] A.nZ
 K8 : gq K "shown" "Is.shown" cY A.jn A.jo
 K9 : Binds K A.jo ["self"] []
 La : gq K "atoms" "Is.atoms" cZ A.jq A.jr
 Lb : Binds K A.jr ["self"] []
 wR : gq K "__init__" "Compare.__init__" aO A.jc A.jd
 wU : Binds K A.jd ["self", "name", "how", "number"] []
 zf : gq K "shown" "Compare.shown" aV A.dZ A.d7
 zg : Binds K A.d7 ["self"] []
 zj : gq K "atoms" "Compare.atoms" aW A.d8 A.d9
 zm : Binds K A.d9 ["self"] []
 G6 : gq K "__init__" "Not.__init__" bY A.n8 A.oh
 ud : Binds K A.oh ["self", "test"] []
 Iz : gq K "shown" "Not.shown" cJ A.iu A.iw
 IK : Binds K A.iw ["self"] []
 IV : gq K "atoms" "Not.atoms" cL A.iy A.iz
 IW : Binds K A.iz ["self"] []
 DW : gq K "__init__" "Pair.__init__" bK A.iR A.lU
 sO : Binds K A.lU ["self", "one", "other"] []
 vB : gq K "shown_with" "Pair.shown_with" aK A.aQ A.bx
 mq : Binds K A.bx ["self", "word"] []
 G7 : gq K "atoms" "Pair.atoms" bZ A.dN A.fB
 ue : Binds K A.fB ["self"] []
 G8 : gq K "shown" "Both.shown" b7 A.gC A.gD
 G9 : Binds K A.gD ["self"] []
 Bp : gq K "shown" "Either.shown" bj A.fD A.fG
 Bq : Binds K A.fG ["self"] []
 uf : gq K "__init__" "WordsLeft.__init__" aH A.gF A.gG
 ug : Binds K A.gG ["self", "words"] []
 wV : gq K "take" "WordsLeft.take" aP A.fQ A.fU
 wW : Binds K A.fU ["self"] []
 mV : gq K "are_all_taken" "WordsLeft.are_all_taken" aA A.cA A.cB
 mW : Binds K A.cB ["self"] []
 Ol : gq K "read_atom" "read_atom" dz A.oW A.tR
 Cr : Binds K A.tR ["name", "how", "what"] []
 Cu : W.keepIn K (.ref A.oW) = true
 Cv : mg "read_atom" = some (.ref A.oW)
 Om : gq K "read_pair" "read_pair" dB A.kZ A.oX
 Cw : Binds K A.oX ["left", "deepest"] []
 Cy : W.keepIn K (.ref A.kZ) = true
 Cz : mg "read_pair" = some (.ref A.kZ)
 CG : gq K "read_next" "read_next" dC A.jg A.lq
 lr : Binds K A.lq ["left", "deepest"] []
 lA : W.keepIn K (.ref A.jg) = true
 lB : mg "read_next" = some (.ref A.jg)
 Ja : gq K "read_saying" "read_saying" cM A.kh A.pL
 Jb : Binds K A.pL ["text"] []
 Jc : W.keepIn K (.ref A.kh) = true
 Jd : mg "read_saying" = some (.ref A.kh)
 Je : gq K "_law_cell_at" "_law_cell_at" cN A.kj A.pM
 Jf : Binds K A.pM ["_law_script", "_law_k"] []
 Jg : W.keepIn K (.ref A.kj) = true
 Jh : mg "_law_cell_at" = some (.ref A.kj)
 Oo : gq K "_law_mixed" "_law_mixed" dD A.oY A.tU
 dG : Binds K A.tU ["_law_cell", "_law_k"] []
 dH : W.keepIn K (.ref A.oY) = true
 dI : mg "_law_mixed" = some (.ref A.oY)
 Ha : gq K "_law_open" "_law_open" eH A.ou A.rA
 wX : Binds K A.rA ["_law_word"] []
 wY : W.keepIn K (.ref A.ou) = true
 wZ : mg "_law_open" = some (.ref A.ou)
 QG : gq K "_law_name" "_law_name" eN A.rB A.wH
 rJ : Binds K A.wH ["_law_cell"] []
 rK : W.keepIn K (.ref A.rB) = true
 rM : mg "_law_name" = some (.ref A.rB)
 Ld : gq K "_law_number" "_law_number" dg A.mQ A.rC
 zp : Binds K A.rC ["_law_cell"] []
 zq : W.keepIn K (.ref A.mQ) = true
 zr : mg "_law_number" = some (.ref A.mQ)
 Oq : gq K "_law_money" "_law_money" dF A.oZ A.tV
 CJ : Binds K A.tV ["_law_number_here"] []
 CK : W.keepIn K (.ref A.oZ) = true
 CN : mg "_law_money" = some (.ref A.oZ)
 Le : gq K "_law_picked" "_law_picked" dh A.mR A.rD
 Lf : Binds K A.rD ["_law_cell"] []
 Lg : W.keepIn K (.ref A.mR) = true
 Lh : mg "_law_picked" = some (.ref A.mR)
 QH : gq K "_law_kind" "_law_kind" eO A.rE A.wI
 QJ : Binds K A.wI ["_law_cell"] []
 QK : W.keepIn K (.ref A.rE) = true
 QL : mg "_law_kind" = some (.ref A.rE)
 QM : gq K "_law_atom" "_law_atom" eQ A.rF A.wJ
 QQ : Binds K A.wJ ["_law_cell"] []
 QR : W.keepIn K (.ref A.rF) = true
 QS : mg "_law_atom" = some (.ref A.rF)
 Li : gq K "_law_saying" "_law_saying" di A.mU A.rG
 rN : Binds K A.rG ["_law_cell", "_law_deep"] []
 rO : W.keepIn K (.ref A.mU) = true
 rP : mg "_law_saying" = some (.ref A.mU)
 QT : gq K "_law_text" "_law_text" eU A.rH A.wK
 gH : Binds K A.wK ["_law_found", "_law_due"] []
 gJ : W.keepIn K (.ref A.rH) = true
 gK : mg "_law_text" = some (.ref A.rH)
 vC : gq K "_law_question_fits" "_law_question_fits" aL A.eZ A.il
 my : Binds K A.il ["_law_row", "_law_name_here", "_law_kind_here", "_law_saying_here"] []
 mz : W.keepIn K (.ref A.eZ) = true
 mC : mg "_law_question_fits" = some (.ref A.eZ)
 Br : gq K "_law_check_fits" "_law_check_fits" bu A.gY A.jU
 qm : Binds K A.jU ["_law_row", "_law_name_here", "_law_saying_here", "_law_firm"] []
 qp : W.keepIn K (.ref A.gY) = true
 qt : mg "_law_check_fits" = some (.ref A.gY)
 Bs : gq K "_law_sheet_fits" "_law_sheet_fits" bw A.gZ A.jV
 qu : Binds K A.jV ["_law_sheet", "_law_name_here", "_law_each", "_law_rows", "_law_ways"] []
 qw : W.keepIn K (.ref A.gZ) = true
 qx : mg "_law_sheet_fits" = some (.ref A.gZ)
 ZM : gq K "law" "law" yt A.RT A.RV
 aeg : mg "law" = some (.ref A.RT)
 T5 : nC mg "DEEPEST" (.int 8)
 Hb : nC mg "FEWEST_WORDS" (.int 2)
 Kc : nC mg "FIGURES" (.str "0123456789")
 aa7 : nC mg "HOWS" (.ref A.Wg)
 aa8 : ∀ H, lG K H A.Wg [(.str "<"), (.str "="), (.str ">")]
 Kd : nC mg "LETTERS" (.str "abcdefghijklmnopqrstuvwxyz")
 uh : nC mg "LONGEST_NAME" (.int 12)
 Lj : nC mg "MOST_ATOMS" (.int 16)
 Hc : nC mg "MOST_FIGURES" (.int 60)
 Lk : nC mg "MOST_NAMES" (.int 6)
 Ln : nC mg "MOST_WORDS" (.int 6)
 Hd : nC mg "NO_NAMES" (.ref A.Gq)
 Hf : ∀ H, lG K H A.Gq [(.str "and"), (.str "each"), (.str "end"), (.str "is"), (.str "not"), (.str "or"), (.str "unless"), (.str "when")]
 ZP : mg "abs" = none
 RW : mg "all" = none
 aa9 : mg "bool" = none
 aJ : mg "isinstance" = none
 jy : mg "len" = none
 oE : mg "list" = none
 RX : mg "range" = none
 aeh : mg "set" = none
 oF : mg "str" = none
 YJ : mg "tuple" = none
 aei : mg "zip" = none
 Wi : W.kitOne K (.type "NoneType") (.type "int") = some false
 aba : W.kitOne K (.type "bool") (.type "int") = some true
 ac4 : W.kitOne K (.type "int") (.type "int") = some true
 T6 : W.kitOne K (.type "str") (.type "int") = some false
 abb : W.kitOne K (.type "list") (.type "int") = some false
 ZQ : W.kitOne K (.type "tuple") (.type "int") = some false
 abd : W.kitOne K (.type "dict") (.type "int") = some false
 Uy : W.kitOne K (.type "NoneType") (.type "bool") = some false
 Ot : W.kitOne K (.type "bool") (.type "bool") = some true
 abe : W.kitOne K (.type "int") (.type "bool") = some false
 QV : W.kitOne K (.type "str") (.type "bool") = some false
 ZR : W.kitOne K (.type "list") (.type "bool") = some false
 YK : W.kitOne K (.type "tuple") (.type "bool") = some false
 ZS : W.kitOne K (.type "dict") (.type "bool") = some false
 Wj : W.kitOne K (.type "NoneType") (.type "str") = some false
 abf : W.kitOne K (.type "bool") (.type "str") = some false
 ac5 : W.kitOne K (.type "int") (.type "str") = some false
 qy : W.kitOne K (.type "str") (.type "str") = some true
 abg : W.kitOne K (.type "list") (.type "str") = some false
 ZV : W.kitOne K (.type "tuple") (.type "str") = some false
 abh : W.kitOne K (.type "dict") (.type "str") = some false
 o6 : W.kitOne K (.type "list") (.type "list") = some true
 Ji : W.kitOne K (.type "tuple") (.type "tuple") = some true
 ZW : mg "Ask" = some (.ref A.mj)
 ZX : nC mg "Ask" (.ref A.mj)
 abi : mg "Both" = some (.ref A.jt)
 RZ : mg "Check" = some (.ref A.fc)
 R3 : nC mg "Check" (.ref A.fc)
 T7 : mg "Compare" = some (.ref A.cP)
 Wk : mg "Either" = some (.ref A.eE)
 apu : mg "Is" = some (.ref A.vA)
 QW : mg "Kind" = some (.ref A.Wh)
 YL : mg "Money" = some (.ref A.ju)
 YM : mg "Names" = some (.ref A.km)
 Ou : mg "NoKind" = some (.ref A.yw)
 w5 : mg "NoNumber" = some (.ref A.jW)
 j5 : mg "NoSaying" = some (.ref A.fV)
 ZZ : mg "Not" = some (.ref A.oA)
 YQ : mg "Paper" = some (.ref A.iT)
 abj : mg "Pick" = some (.ref A.jX)
 Z0 : mg "Row" = some (.ref A.Og)
 Z1 : nC mg "Row" (.ref A.Og)
 R4 : mg "Sheet" = some (.ref A.jw)
 YS : mg "Whole" = some (.ref A.jx)
 Ov : mg "WordsLeft" = some (.ref A.az)
 YT : mg "YesNo" = some (.ref A.kE)
 Ow : W.excIn K A.yw Gd "ValueError.__new__" = true
 Hg : W.excIn K A.jW Gd "ValueError.__new__" = true
 j6 : W.excIn K A.fV Gd "ValueError.__new__" = true
 um : W.exmOne K (.ref A.jW) (.ref A.jW) = some true
 DX : W.kitOne K (.ref A.vA) (.ref A.az) = some false
 uo : W.kitOne K (.ref A.cP) (.ref A.az) = some false
 Bu : W.kitOne K (.ref A.oA) (.ref A.az) = some false
 zu : W.kitOne K (.ref A.jt) (.ref A.az) = some false
 vD : W.kitOne K (.ref A.eE) (.ref A.az) = some false
 Wl : W.kitOne K (.ref A.vA) (.ref A.vA) = some true
 xf : W.kitOne K (.ref A.cP) (.ref A.cP) = some true
 QX : W.kitOne K (.ref A.oA) (.ref A.oA) = some true
 Lp : W.kitOne K (.ref A.jt) (.ref A.jt) = some true
 Bv : W.kitOne K (.ref A.eE) (.ref A.eE) = some true
 Lq : W.kitOne K (.ref A.fc) (.ref A.mj) = some false
 Hh : W.kitOne K (.ref A.fc) (.ref A.fc) = some true
 Lr : W.kitOne K (.ref A.fc) (.ref A.Og) = some true
 QZ : W.kitOne K (.ref A.mj) (.ref A.mj) = some true
 Ls : W.kitOne K (.ref A.mj) (.ref A.fc) = some false
 Q0 : W.kitOne K (.ref A.mj) (.ref A.Og) = some true
 Hi : uU K A.vA
 aej : Mk K A.vA A.pJ
 Ox : Meth K A.vA "shown" A.jn
 Oz : Meth K A.vA "atoms" A.jq
 Hj : aD K A.vA "name"
 Hk : aD K A.vA "word"
 OD : aD K A.vA "place"
 gM : uU K A.cP
 Q3 : Mk K A.cP A.jc
 Bw : Meth K A.cP "shown" A.dZ
 Bx : Meth K A.cP "atoms" A.d8
 sU : aD K A.cP "name"
 uq : aD K A.cP "how"
 o7 : aD K A.cP "number"
 Hl : uU K A.oA
 Wm : Mk K A.oA A.n8
 Lw : Meth K A.oA "shown" A.iu
 Lx : Meth K A.oA "atoms" A.iy
 ur : aD K A.oA "test"
 vm : uU K A.jt
 YW : Mk K A.jt A.iR
 Jj : Meth K A.jt "shown" A.gC
 Jk : Meth K A.jt "atoms" A.dN
 xg : Meth K A.jt "shown_with" A.aQ
 uv : aD K A.jt "one"
 pO : aD K A.jt "other"
 m6 : uU K A.eE
 T8 : Mk K A.eE A.iR
 DY : Meth K A.eE "shown" A.fD
 Ea : Meth K A.eE "atoms" A.dN
 uw : Meth K A.eE "shown_with" A.aQ
 pP : aD K A.eE "one"
 lV : aD K A.eE "other"
 b8 : uU K A.az
 Ly : Mk K A.az A.gF
 zx : Meth K A.az "take" A.fQ
 oG : Meth K A.az "are_all_taken" A.cA
 fW : aD K A.az "words"
 cW : aD K A.az "taken"
 OJ : uU K A.kE
 Wn : Mk K A.kE A.jP
 Jl : Meth K A.kE "told" A.nJ
 Lz : aD K A.kE "low"
 Jm : aD K A.kE "high"
 ux : uU K A.jx
 Wo : Mk K A.jx A.dX
 Hm : Meth K A.jx "shown" A.iH
 Jo : Meth K A.jx "told" A.nO
 Eb : Meth K A.jx "bounds" A.dJ
 zy : aD K A.jx "low"
 vV : aD K A.jx "high"
 uy : uU K A.ju
 Wq : Mk K A.ju A.dX
 Hn : Meth K A.ju "shown" A.iJ
 Jp : Meth K A.ju "told" A.nQ
 Ec : Meth K A.ju "bounds" A.dJ
 zz : aD K A.ju "low"
 vW : aD K A.ju "high"
 Ff : uU K A.jX
 YX : Mk K A.jX A.lN
 LC : Meth K A.jX "told" A.pH
 O1 : aD K A.jX "low"
 LK : aD K A.jX "high"
 vX : aD K A.jX "words"
 Ho : uU K A.km
 Wr : Mk K A.km A.jR
 Jq : Meth K A.km "told" A.nT
 LQ : aD K A.km "low"
 vY : aD K A.km "high"
 rQ : uU K A.mj
 Q4 : ∀ (H : Hp) (a dx : Addr) (fs : List (Str × V)), H a = some (.ins A.mj dx fs) → au K H (.ref a) (.ref A.mj)
 Ws : Mk K A.mj A.nH
 o8 : aD K A.mj "name"
 CP : aD K A.mj "kind"
 uz : aD K A.mj "when"
 jz : uU K A.fc
 Hq : ∀ (H : Hp) (a dx : Addr) (fs : List (Str × V)), H a = some (.ins A.fc dx fs) → au K H (.ref a) (.ref A.fc)
 O2 : Mk K A.fc A.jJ
 kI : aD K A.fc "name"
 vZ : aD K A.fc "test"
 pQ : aD K A.fc "firm"
 fH : uU K A.jw
 O3 : Mk K A.jw A.jK
 kJ : aD K A.jw "name"
 v9 : aD K A.jw "each"
 pR : aD K A.jw "rows"
 kO : aD K A.jw "ways"
 lC : uU K A.iT
 Wt : Mk K A.iT A.jM
 wg : aD K A.iT "name"
 lW : aD K A.iT "sheets"
 lX : aD K A.iT "totals"
 rR : VP K A.Wh "__init__" A.dX
 CQ : VP K A.Og "__init__" A.nF
theorem Ed : aq ["self", "name"] ["self", "name"] (aa bO) := ⟨rfl, rfl, rfl, by symm, rfl, by symm, by symm⟩
theorem Ef : aq ["self", "name", "kind", "when"] ["self", "name", "kind", "when"] (aa bA) := ⟨rfl, rfl, rfl, by symm, rfl, by symm, by symm⟩
theorem z8 : aq ["self", "name", "test", "firm"] ["self", "name", "test", "firm"] (aa aU) := ⟨rfl, rfl, rfl, by symm, rfl, by symm, by symm⟩
theorem z9 : aq ["self", "name", "each", "rows", "ways"] ["self", "name", "each", "rows", "ways"] (aa aX) := ⟨rfl, rfl, rfl, by symm, rfl, by symm, by symm⟩
theorem Aa : aq ["self", "name", "sheets", "totals"] ["self", "name", "sheets", "totals"] (aa aY) := ⟨rfl, rfl, rfl, by symm, rfl, by symm, by symm⟩
theorem Hr : aq ["thing"] ["thing"] (aa fZ) := ⟨rfl, rfl, rfl, by symm, rfl, by symm, by symm⟩
theorem vG : aq ["words"] ["words"] (aa aN) := ⟨rfl, rfl, rfl, by symm, rfl, by symm, by symm⟩
theorem Hs : aq ["text"] ["text"] (aa cF) := ⟨rfl, rfl, rfl, by symm, rfl, by symm, by symm⟩
theorem ie : aq ["figures", "worth", "sign"] ["figures"] (aa bB) := ⟨rfl, rfl, rfl, by symm, rfl, by symm, by symm⟩
theorem mX : aq ["text", "most", "below", "figures", "worth"] ["text", "most"] (aa dw) := ⟨rfl, rfl, rfl, by symm, rfl, by symm, by symm⟩
theorem Ab : aq ["text"] ["text"] (aa aZ) := ⟨rfl, rfl, rfl, by symm, rfl, by symm, by symm⟩
theorem oH : aq ["hundredths", "figures", "minus"] ["hundredths"] (aa cG) := ⟨rfl, rfl, rfl, by symm, rfl, by symm, by symm⟩
theorem ig : aq ["text", "figures", "worth", "hundredths"] ["text"] (aa bC) := ⟨rfl, rfl, rfl, by symm, rfl, by symm, by symm⟩
theorem qz : aq ["self", "low", "high"] ["self", "low", "high"] (aa bD) := ⟨rfl, rfl, rfl, by symm, rfl, by symm, by symm⟩
theorem Ac : aq ["self"] ["self"] (aa bc) := ⟨rfl, rfl, rfl, by symm, rfl, by symm, by symm⟩
theorem Eg : aq ["self"] ["self"] (aa bQ) := ⟨rfl, rfl, rfl, by symm, rfl, by symm, by symm⟩
theorem By : aq ["self", "answer"] ["self", "answer"] (aa bF) := ⟨rfl, rfl, rfl, by symm, rfl, by symm, by symm⟩
theorem Ad : aq ["self"] ["self"] (aa bf) := ⟨rfl, rfl, rfl, by symm, rfl, by symm, by symm⟩
theorem Eh : aq ["self"] ["self"] (aa bR) := ⟨rfl, rfl, rfl, by symm, rfl, by symm, by symm⟩
theorem BJ : aq ["self", "answer"] ["self", "answer"] (aa bG) := ⟨rfl, rfl, rfl, by symm, rfl, by symm, by symm⟩
theorem Ei : aq ["self"] ["self"] (aa bT) := ⟨rfl, rfl, rfl, by symm, rfl, by symm, by symm⟩
theorem BK : aq ["self", "words"] ["self", "words"] (aa bH) := ⟨rfl, rfl, rfl, by symm, rfl, by symm, by symm⟩
theorem Ht : aq ["self"] ["self"] (aa cH) := ⟨rfl, rfl, rfl, by symm, rfl, by symm, by symm⟩
theorem Ae : aq ["self", "most"] ["self", "most"] (aa bh) := ⟨rfl, rfl, rfl, by symm, rfl, by symm, by symm⟩
theorem Ej : aq ["self"] ["self"] (aa bU) := ⟨rfl, rfl, rfl, by symm, rfl, by symm, by symm⟩
theorem Jr : aq ["numbers"] ["numbers"] (aa cX) := ⟨rfl, rfl, rfl, by symm, rfl, by symm, by symm⟩
theorem qC : aq ["words", "numbers"] ["words"] (aa bI) := ⟨rfl, rfl, rfl, by symm, rfl, by symm, by symm⟩
theorem jH : aq ["words", "numbers"] ["words"] (aa aG) := ⟨rfl, rfl, rfl, by symm, rfl, by symm, by symm⟩
theorem Ek : aq ["words"] ["words"] (aa bV) := ⟨rfl, rfl, rfl, by symm, rfl, by symm, by symm⟩
theorem qD : aq ["words", "most"] ["words"] (aa bJ) := ⟨rfl, rfl, rfl, by symm, rfl, by symm, by symm⟩
theorem El : aq ["first", "words"] ["first", "words"] (aa bW) := ⟨rfl, rfl, rfl, by symm, rfl, by symm, by symm⟩
theorem xj : aq ["text", "words", "kind"] ["text"] (aa gb) := ⟨rfl, rfl, rfl, by symm, rfl, by symm, by symm⟩
theorem Hu : aq ["self", "name", "word", "place"] ["self", "name", "word", "place"] (aa cI) := ⟨rfl, rfl, rfl, by symm, rfl, by symm, by symm⟩
theorem Jt : aq ["self"] ["self"] (aa cY) := ⟨rfl, rfl, rfl, by symm, rfl, by symm, by symm⟩
theorem Ju : aq ["self"] ["self"] (aa cZ) := ⟨rfl, rfl, rfl, by symm, rfl, by symm, by symm⟩
theorem vH : aq ["self", "name", "how", "number"] ["self", "name", "how", "number"] (aa aO) := ⟨rfl, rfl, rfl, by symm, rfl, by symm, by symm⟩
theorem xm : aq ["self"] ["self"] (aa aV) := ⟨rfl, rfl, rfl, by symm, rfl, by symm, by symm⟩
theorem xn : aq ["self"] ["self"] (aa aW) := ⟨rfl, rfl, rfl, by symm, rfl, by symm, by symm⟩
theorem Em : aq ["self", "test"] ["self", "test"] (aa bY) := ⟨rfl, rfl, rfl, by symm, rfl, by symm, by symm⟩
theorem Hv : aq ["self"] ["self"] (aa cJ) := ⟨rfl, rfl, rfl, by symm, rfl, by symm, by symm⟩
theorem Hw : aq ["self"] ["self"] (aa cL) := ⟨rfl, rfl, rfl, by symm, rfl, by symm, by symm⟩
theorem BL : aq ["self", "one", "other"] ["self", "one", "other"] (aa bK) := ⟨rfl, rfl, rfl, by symm, rfl, by symm, by symm⟩
theorem uA : aq ["self", "word"] ["self", "word"] (aa aK) := ⟨rfl, rfl, rfl, by symm, rfl, by symm, by symm⟩
theorem En : aq ["self"] ["self"] (aa bZ) := ⟨rfl, rfl, rfl, by symm, rfl, by symm, by symm⟩
theorem Eo : aq ["self"] ["self"] (aa b7) := ⟨rfl, rfl, rfl, by symm, rfl, by symm, by symm⟩
theorem Af : aq ["self"] ["self"] (aa bj) := ⟨rfl, rfl, rfl, by symm, rfl, by symm, by symm⟩
theorem sY : aq ["self", "words"] ["self", "words"] (aa aH) := ⟨rfl, rfl, rfl, by symm, rfl, by symm, by symm⟩
theorem mD : aq ["self", "word"] ["self"] (aa aP) := ⟨rfl, rfl, rfl, by symm, rfl, by symm, by symm⟩
theorem lY : aq ["self"] ["self"] (aa aA) := ⟨rfl, rfl, rfl, by symm, rfl, by symm, by symm⟩
theorem Ag : aq ["name", "how", "what", "number"] ["name", "how", "what"] (aa dz) := ⟨rfl, rfl, rfl, by symm, rfl, by symm, by symm⟩
theorem jA : aq ["left", "deepest", "one", "word", "other", "closed"] ["left", "deepest"] (aa dB) := ⟨rfl, rfl, rfl, by symm, rfl, by symm, by symm⟩
theorem mY : aq ["left", "deepest", "first"] ["left", "deepest"] (aa dC) := ⟨rfl, rfl, rfl, by symm, rfl, by symm, by symm⟩
theorem oJ : aq ["text", "left", "saying"] ["text"] (aa cM) := ⟨rfl, rfl, rfl, by symm, rfl, by symm, by symm⟩
theorem Hx : aq ["_law_script", "_law_k"] ["_law_script", "_law_k"] (aa cN) := ⟨rfl, rfl, rfl, by symm, rfl, by symm, by symm⟩
theorem Ah : aq ["_law_cell", "_law_k", "_law_number_here"] ["_law_cell", "_law_k"] (aa dD) := ⟨rfl, rfl, rfl, by symm, rfl, by symm, by symm⟩
theorem CT : aq ["_law_word"] ["_law_word"] (aa eH) := ⟨rfl, rfl, rfl, by symm, rfl, by symm, by symm⟩
theorem jh : aq ["_law_cell", "_law_number_here", "_law_word", "_law_k"] ["_law_cell"] (aa eN) := ⟨rfl, rfl, rfl, by symm, rfl, by symm, by symm⟩
theorem Jv : aq ["_law_cell"] ["_law_cell"] (aa dg) := ⟨rfl, rfl, rfl, by symm, rfl, by symm, by symm⟩
theorem Ai : aq ["_law_number_here", "_law_figures"] ["_law_number_here"] (aa dF) := ⟨rfl, rfl, rfl, by symm, rfl, by symm, by symm⟩
theorem wj : aq ["_law_cell", "_law_word"] ["_law_cell"] (aa dh) := ⟨rfl, rfl, rfl, by symm, rfl, by symm, by symm⟩
theorem o9 : aq ["_law_cell", "_law_low", "_law_high"] ["_law_cell"] (aa eO) := ⟨rfl, rfl, rfl, by symm, rfl, by symm, by symm⟩
theorem uB : aq ["_law_cell", "_law_name_here", "_law_word"] ["_law_cell"] (aa eQ) := ⟨rfl, rfl, rfl, by symm, rfl, by symm, by symm⟩
theorem kW : aq ["_law_cell", "_law_deep", "_law_way", "_law_one", "_law_other"] ["_law_cell", "_law_deep"] (aa di) := ⟨rfl, rfl, rfl, by symm, rfl, by symm, by symm⟩
theorem O5 : aq ["_law_found", "_law_due"] ["_law_found", "_law_due"] (aa eU) := ⟨rfl, rfl, rfl, by symm, rfl, by symm, by symm⟩
theorem uC : aq ["_law_row", "_law_name_here", "_law_kind_here", "_law_saying_here"] ["_law_row", "_law_name_here", "_law_kind_here", "_law_saying_here"] (aa aL) := ⟨rfl, rfl, rfl, by symm, rfl, by symm, by symm⟩
theorem Aj : aq ["_law_row", "_law_name_here", "_law_saying_here", "_law_firm"] ["_law_row", "_law_name_here", "_law_saying_here", "_law_firm"] (aa bu) := ⟨rfl, rfl, rfl, by symm, rfl, by symm, by symm⟩
theorem jB : aq ["_law_sheet", "_law_name_here", "_law_each", "_law_rows", "_law_ways", "_law_way", "_law_due"] ["_law_sheet", "_law_name_here", "_law_each", "_law_rows", "_law_ways"] (aa bw) := ⟨rfl, rfl, rfl, by symm, rfl, by symm, by symm⟩
theorem jC : aq ["_law_script", "_law_cells", "_law_names", "_law_kind_here", "_law_saying_here", "_law_test", "_law_rows", "_law_turn", "_law_some", "_law_each", "_law_ways", "_law_sheet", "_law_other", "_law_paper"] ["_law_script"] (aa yt) := ⟨rfl, rfl, rfl, by symm, rfl, by symm, by symm⟩
end fX
set_option maxHeartbeats 4000000
namespace fX
open PySem L2
seal PE PT PW PA PS jG PG tE PI PO iV ir uT bL iW qU sy PC wD
local macro_rules | `(tactic| walk_at "rd1") => `(tactic| first
 | (refine And.intro rfl ?_)
 | (refine And.intro (by assumption) ?_)
 | (refine And.intro (fun _ e => e) ?_)
 | (refine And.intro (au.str _) ?_) | (refine And.intro (au.int _) ?_) | (refine And.intro (au.bl _) ?_) | (refine And.intro au.non ?_)
 | (refine cQ ?_) | (refine aM ?_)
 | (apply Exists.intro))
local macro_rules | `(tactic| walk_at "rd") => `(tactic| repeat (walk_at "rd1"))
def aek : Sp := fun vs H Q _ => ∃ z, vs = [.str z] ∧ z.length ≤ sizeLine ∧ ∀ H', aB H H' → Q (.bl (Dh (cd z))) H'
def YZ : Sp := fun vs H Q _ => ∃ z, vs = [.str z] ∧ z.length ≤ 1000 ∧ (cd z).all inF = true ∧ Q (.int (val (cd z))) H
def ael (K : W.Frag) (A : dW) : Sp := fun vs H Q E => ∃ x most, vs = [x, .int most] ∧ 1 ≤ most ∧ ((∃ z, x = .str z ∧ bN 1000 z ∧ (∀ n H', aB H H' → fM (cd z) most = some n → Q (.int n) H') ∧ (∀ H', aB H H' → fM (cd z) most = none → E (.ref A.jW) none H')) ∨ (∃ t, Uw K H x t ∧ W.kitOne K t (.type "str") = some false ∧ ∀ H', aB H H' → E (.ref A.jW) none H'))
section
variable {P : Program} {w : World} {K : W.Frag} {mg : Str → Option Value} {base : Heap} {A : dW}
theorem uD (T : Txt K mg A) : aF P w K mg base cD 1 A.j8 A.pF ["text"] aek := by
 refine T.Ip.ok Hs (fun vs H Q E h => ?_) (fun cdv A0 outer s H vs Q E hr h => ?_)
 · obtain ⟨x, rfl, _⟩ := h
   rfl
 obtain ⟨z, rfl, hz, q⟩ := h
 refine ⟨_, (zF (zG (tD (xF Rx (zR xS (by rfl) T.jy PySem.boot_len (zA (pv 0) zB)) zE (zS _)) (wA (zR (yd rfl) (by rfl) T.RW Bt.all (zA (xU (yQ (x := "sign") (M := ["text"]) rfl (by rfl)) rfl (Ay (pv 0)) (fun _ _ _ _ => (xF Av (pv 0) (xL rfl T.Kc) (by rfl)))) zB)))))), ?_⟩
 walk_at "rd"
 refine du (fun c => ?_) (fun c => ?_)
 · walk_at "rd"
   refine p6 hz (fun i ys H' => H' = H ∧ ys = ((cd z).take i).map fun c => V.bl (inF c)) ⟨rfl, rfl⟩ (fun i c ys H' hc hl hw => ?_) (fun ys H' hl hw p hp => ?_)
   · obtain ⟨rfl, rfl⟩ := hw
     walk_at "rd"
     rw [List.take_succ, hc]
     simp [inF, VH]
   · obtain ⟨rfl, rfl⟩ := hw
     have e : (cd z).take z.length = cd z := List.take_of_length_le (by rw [yD]; exact Nat.le_refl _)
     rw [e]
     refine ⟨p, (cd z).map inF, rfl, bz.of (by rw [zD, List.map_map]; rfl), ?_⟩
     have e2 : Dh (cd z) = ((cd z).map inF).all id := by
       unfold Dh
       have c' : (0 : Int) < z.length := of_decide_eq_true c
       rw [decide_eq_true (by rw [← yD]; omega), List.all_map]
       rfl
     rw [e2] at q
     exact q _ (zK hp _)
 · have e : Dh (cd z) = false := by
     unfold Dh
     have c' : ¬ (0 : Int) < z.length := of_decide_eq_false (Bool.eq_false_iff.mpr c)
     rw [decide_eq_false (by rw [← yD]; omega)]
     rfl
   rw [e] at q
   exact q _ (aB.refl _)
theorem qF (T : Txt K mg A) : aF P w K mg base cD 1 A.iC A.lL ["figures"] YZ := by
 refine T.Dk.ok ie (fun vs H Q E h => ?_) (fun cdv A0 outer s H vs Q E hr h => ?_)
 · obtain ⟨x, rfl, _⟩ := h
   rfl
 obtain ⟨z, rfl, hz, hF, q⟩ := h
 refine ⟨_, (zC (zY (i := 1) ie.nd rfl (by first | exact Or.inl rfl | exact Or.inr rfl) zE)
     (zC (KQ PassesOwn.never rfl (Ay (pv 0)) (uR (i := 2) ie.nd rfl (by first | exact Or.inl rfl | exact Or.inr rfl)) (zF (zY (i := 1) ie.nd rfl (by first | exact Or.inl rfl | exact Or.inr rfl) (zL qR (zL ye (pv 1) zE) (tL PySem.F.plainAttrs_str PySem.F.slot_str_find PySem.F.type_str_find Yp (xL rfl T.Kc) (zA (pv 2) zB))))))
     (zF (zG (pv 1))))), ?_⟩
 walk_at "rd"
 refine Vx (fun i σ H' => H' = H ∧ ∃ v, σ = [some (.str z), some (.int (val ((cd z).take i))), v]) ⟨rfl, ⟨_, rfl⟩⟩ (fun i c σ H' hc hp => ?_) (fun σ H' hp => ?_)
 · obtain ⟨rfl, v, rfl⟩ := hp
   have hi : i < (cd z).length := (List.getElem?_eq_some_iff.mp hc).1
   have hcF : inF c = true := List.all_eq_true.mp hF c (List.mem_of_getElem? hc)
   have hb := Az i ((cd z).take i) (by rw [List.length_take]; omega) (by
     rw [List.all_eq_true]; intro x hx; exact List.all_eq_true.mp hF x (List.mem_of_mem_take hx))
   have hb2 := VL hb.1 hb.2
   rw [← yD] at hi
   refine ⟨_, rfl, _, _, rfl, rfl, ⟨by show ib _ ≤ 60000000; omega, by decide⟩, ?_⟩
   walk_at "rd"
   have e : Txt.find VH (S [c]) = ((c - 48 : Nat) : Int) := findF hcF
   show some _ :: some (V.int (val ((cd z).take i) * 10 + Txt.find VH (S [c]))) :: _ = _
   rw [e, VJ hc]
   rfl
 · obtain ⟨rfl, v, rfl⟩ := hp
   have e : (cd z).take z.length = cd z := List.take_of_length_le (by rw [yD]; exact Nat.le_refl _)
   rw [e]
   exact ⟨_, rfl, q⟩
theorem LR (T : Txt K mg A) : aF P w K mg base (vz P w) 2 A.oV A.tQ ["text", "most"] (ael K A) := by
 have pU := uD (P := P) (w := w) (base := base) T
 have lZ := qF (P := P) (w := w) (base := base) T
 refine T.Oh.ZG mX (fun vs H Q E h => ?_) (fun cdv A0 outer s H vs Q E hr h => ?_)
 · obtain ⟨x, most, rfl, _⟩ := h
   rfl
 obtain ⟨x, most, rfl, hm, h⟩ := h
 refine ⟨_, (zC (yB (yM (yA (zR yO (by rfl) T.aJ Bt.isinstance (zA (pv 0) (zA (xO (v := .ty "str") rfl T.oF Bt.str rfl) zB))))) (zF (xM T.w5 T.Hg (zA zJ zB) rfl)) zO)
     (zC (yB (zQ yR (pv 0) zJ (zS _)) (zF (zG zE)) zO)
     (zC (zY (i := 2) mX.nd rfl (by first | exact Or.inl rfl | exact Or.inr rfl) (tL PySem.F.plainAttrs_str PySem.F.slot_str_startswith PySem.F.type_str_startswith vL (pv 0) (zA zJ zB)))
     (zC (zY (i := 3) mX.nd rfl (by first | exact Or.inl rfl | exact Or.inr rfl) (xD (yA (pv 2)) (yW pD (pv 0) (xA zE) xG) (pv 0)))
     (zC (yB (PW.pt (xJ (yM (yA (zI pU ‹hr› rfl T.vP T.vO T.vN .nil zM (zA (pv 3) zB)))) (xJ (zQ yR (yC Vg (pv 3) zE (fun _ _ => rfl)) zJ (zS _)) (xC (zQ Rx (zR xS (by rfl) T.jy PySem.boot_len (zA (pv 3) zB)) (pv 1) (zS _)))))) (zF (xM T.w5 T.Hg (zA (Ge (pv 0)) zB) rfl)) zO)
     (zC (zY (i := 4) mX.nd rfl (by first | exact Or.inl rfl | exact Or.inr rfl) (zI lZ ‹hr› rfl T.sI T.sG T.sE .nil zM (zA (pv 3) zB)))
     (zF (zG (xD (yA (pv 2)) (vI pC (pv 4)) (pv 4)))))))))), ?_⟩
 rcases h with ⟨z, rfl, hz, qs, qn⟩ | ⟨t, ty, kt, q⟩
 · refine ⟨_, rfl, _, _, _, _, rfl, rfl, .old (.str z), T.qy, _, rfl, aM ?_⟩
   refine ⟨_, rfl, rfl, _, rfl, ?_⟩
   refine du (fun c => ?_) (fun c => ?_) <;> rw [Qv, show cd ‹"0"› = [48] by symm] at c
   · have c' : cd z = [48] := of_decide_eq_true c
     refine qs _ _ (aB.refl _) ?_
     rw [c']; exact Tu hm
   have c0 : cd z ≠ [48] := of_decide_eq_false (Bool.eq_false_iff.mpr c)
   have es := RG z 45
   rw [show S [45] = ‹"-"› by symm] at es
   have hz2 : z.length ≤ sizeLine := hz.size
   cases hb : PySem.Txt.startswith z ‹"-"› <;> rw [hb] at es
   · have c1 : ¬ (cd z).take 1 = [45] := of_decide_eq_false es.symm
     obtain ⟨f, rfl⟩ : ∃ f, z = f := ⟨z, rfl⟩
     have ef : cd z = yh (cd z) := (if_neg c1).symm
     have hf1 : z.length ≤ 1000 := hz.len
     have hf2 := hz2
     walk_at "rd"
     rw [hb]
     walk_at "rd"
     intro H1 s1
     cases hf : Dh (cd z)
     · refine ⟨_, rfl, cQ ⟨_, rfl, z, rfl, Nat.le_trans hz.len (by decide), hz.KY, fun y => ⟨(by show 1 ≤ sizeLine; decide), qn _ s1 (Nk (by rw [← ef]; exact hf))⟩⟩⟩
     refine ⟨_, rfl, aM ?_⟩
     obtain ⟨f1, f2⟩ := (p7 _).mp hf
     obtain ⟨k, hk, hk1⟩ := Nr (l := cd z) f1
     refine ⟨_, rfl, z, 0, k, rfl, rfl, hf2, hk, rfl, _, rfl, ?_⟩
     refine du (fun c2 => ?_) (fun c2 => ?_) <;> rw [Qv, show cd ‹"0"› = [48] by symm] at c2
     · have c3 : (yh (cd z)).take 1 = [48] := by rw [← ef, hk1]; exact of_decide_eq_true c2
       exact ⟨_, rfl, z, rfl, Nat.le_trans hz.len (by decide), hz.KY, fun y => ⟨(by show 1 ≤ sizeLine; decide), qn _ s1 (Nm c3 c0)⟩⟩
     have c3 : ¬ (yh (cd z)).take 1 = [48] := by rw [← ef, hk1]; exact of_decide_eq_false (Bool.eq_false_iff.mpr c2)
     refine ⟨_, rfl, _, rfl, hf2, _, rfl, _, _, rfl, rfl, _, rfl, ?_⟩
     rw [yD z, ef]
     refine du (fun c4 => ?_) (fun c4 => ?_)
     · have c5 : most < ((yh (cd z)).length : Nat) := of_decide_eq_true c4
       exact ⟨_, rfl, z, rfl, Nat.le_trans hz.len (by decide), hz.KY, fun y => ⟨(by show 1 ≤ sizeLine; decide), qn _ s1 (Np c5)⟩⟩
     have c5 : ¬ most < ((yh (cd z)).length : Nat) := of_decide_eq_false (Bool.eq_false_iff.mpr c4)
     have yes := Nq (by rw [← ef]; exact hf) c3 c5
     rw [if_neg c1, ← ef] at yes
     refine ⟨_, rfl, z, rfl, hf1, f2, ?_⟩
     walk_at "rd"
     exact qs _ _ s1 yes
   · have c1 : (cd z).take 1 = [45] := of_decide_eq_true es.symm
     walk_at "rd"
     rw [hb]
     walk_at "rd"
     obtain ⟨f, hfe⟩ : ∃ f, S (nA (cd z) (some 1) none) = f := ⟨_, rfl⟩
     rw [hfe]
     have ef : cd f = yh (cd z) := by rw [← hfe, dq]; exact (Yr (cd z) 1).trans (if_pos c1).symm
     have hf1 : f.length ≤ 1000 := by rw [← hfe]; exact (hz.cut _ _).len
     have hf2 : f.length ≤ sizeLine := by rw [← hfe]; exact (hz.cut _ _).size
     refine ⟨hf2, ?_⟩
     intro H1 s1
     cases hf : Dh (cd f)
     · refine ⟨_, rfl, cQ ⟨_, rfl, z, rfl, Nat.le_trans hz.len (by decide), hz.KY, fun y => ⟨(by show 1 ≤ sizeLine; decide), qn _ s1 (Nk (by rw [← ef]; exact hf))⟩⟩⟩
     refine ⟨_, rfl, aM ?_⟩
     obtain ⟨f1, f2⟩ := (p7 _).mp hf
     obtain ⟨k, hk, hk1⟩ := Nr (l := cd f) f1
     refine ⟨_, rfl, f, 0, k, rfl, rfl, hf2, hk, rfl, _, rfl, ?_⟩
     refine du (fun c2 => ?_) (fun c2 => ?_) <;> rw [Qv, show cd ‹"0"› = [48] by symm] at c2
     · have c3 : (yh (cd z)).take 1 = [48] := by rw [← ef, hk1]; exact of_decide_eq_true c2
       exact ⟨_, rfl, z, rfl, Nat.le_trans hz.len (by decide), hz.KY, fun y => ⟨(by show 1 ≤ sizeLine; decide), qn _ s1 (Nm c3 c0)⟩⟩
     have c3 : ¬ (yh (cd z)).take 1 = [48] := by rw [← ef, hk1]; exact of_decide_eq_false (Bool.eq_false_iff.mpr c2)
     refine ⟨_, rfl, _, rfl, hf2, _, rfl, _, _, rfl, rfl, _, rfl, ?_⟩
     rw [yD f, ef]
     refine du (fun c4 => ?_) (fun c4 => ?_)
     · have c5 : most < ((yh (cd z)).length : Nat) := of_decide_eq_true c4
       exact ⟨_, rfl, z, rfl, Nat.le_trans hz.len (by decide), hz.KY, fun y => ⟨(by show 1 ≤ sizeLine; decide), qn _ s1 (Np c5)⟩⟩
     have c5 : ¬ most < ((yh (cd z)).length : Nat) := of_decide_eq_false (Bool.eq_false_iff.mpr c4)
     have yes := Nq (by rw [← ef]; exact hf) c3 c5
     rw [if_pos c1, ← ef] at yes
     refine ⟨_, rfl, f, rfl, hf1, f2, ?_⟩
     walk_at "rd"
     exact qs _ _ s1 yes
 · refine ⟨_, rfl, _, _, _, _, rfl, rfl, ty, kt, _, rfl, cQ ?_⟩
   refine ⟨(by show 1 ≤ sizeLine; decide), q _ (aB.refl _)⟩
end
end fX
set_option maxHeartbeats 4000000
namespace fX
open PySem L2
seal PE PT PW PA PS jG PG tE PI PO iV ir uT bL iW qU sy PC wD
local macro_rules | `(tactic| walk_at "rd1") => `(tactic| first
 | (refine And.intro rfl ?_)
 | (refine And.intro (by assumption) ?_)
 | (refine And.intro (fun _ e => e) ?_)
 | (refine And.intro (au.str _) ?_) | (refine And.intro (au.int _) ?_) | (refine And.intro (au.bl _) ?_) | (refine And.intro au.non ?_)
 | (refine cQ ?_) | (refine aM ?_)
 | (apply Exists.intro))
local macro_rules | `(tactic| walk_at "rd") => `(tactic| repeat (walk_at "rd1"))
abbrev jF (lo hi : Int) : List (Str × V) := [("low", .int lo), ("high", .int hi)]
def aem : Sp := fun vs H Q _ => ∃ z, vs = [.str z] ∧ bN 1000 z ∧ ∀ H', aB H H' → Q (jE (fM (cd z) 60)) H'
def Q5 (K : W.Frag) : Sp := fun vs H Q _ => ∃ p C dx lo hi, vs = [.ref p, .int lo, .int hi] ∧ H p = some (.ins C dx []) ∧ uU K C ∧ aD K C "low" ∧ aD K C "high" ∧ Q .non (upd H p (.ins C dx (jF lo hi)))
theorem T9 : (("high" : Str) == ("low" : Str)) = false := by symm
theorem Ma (v : V) : ji "low" v [] = [(("low" : Str), v)] := rfl
theorem Hy (v w : V) : ji "high" w [(("low" : Str), v)] = [(("low" : Str), v), (("high" : Str), w)] := by
 unfold ji
 rw [if_neg (by symm)]; rfl
section
variable {P : Program} {w : World} {K : W.Frag} {mg : Str → Option Value} {base : Heap} {A : dW}
theorem xT (T : Txt K mg A) : aF P w K mg base cD 3 A.gW A.jO ["text"] aem := by
 have O6 := LR (P := P) (w := w) (base := base) T
 refine T.Bh.ok Ab (fun vs H Q E h => ?_) (fun cdv A0 outer s H vs Q E hr h => ?_)
 · obtain ⟨x, rfl, _⟩ := h
   rfl
 obtain ⟨z, rfl, hz, q⟩ := h
 refine ⟨_, (zF (aaV rfl rfl (Yo (Yn (VF O6 ‹hr› rfl T.Oj T.Oi T.K5 T.K6 (zA (pv 0) zB)))) rfl T.w5 (fun _ => (zF (zG yS))))), ?_⟩
 refine ⟨_, rfl, _, _, rfl, by decide, .inl ⟨z, rfl, hz, fun n H' s1 e => ?_, fun H' s1 e => ?_⟩⟩
 · rw [e] at q; exact q _ s1
 · refine ⟨T.um, ?_⟩
   rw [e] at q; exact q _ s1
theorem vo (T : Txt K mg A) : aF P w K mg base cD 1 A.dX A.iG ["self", "low", "high"] (Q5 K) := by
 refine T.sJ.ok qz (fun vs H Q E h => ?_) (fun cdv A0 outer s H vs Q E hr h => ?_)
 · obtain ⟨p, C, dx, lo, hi, rfl, _⟩ := h
   rfl
 obtain ⟨p, C, dx, lo, hi, rfl, hp, cl, n1, n2, q⟩ := h
 refine ⟨_, (zC (yN (pv 0) (pv 1) rfl)
     (zF (yN (pv 0) (pv 2) rfl))), ?_⟩
 refine ⟨_, rfl, _, rfl, p, C, dx, _, rfl, hp, cl, n1, by decide, ?_⟩
 refine ⟨_, rfl, _, rfl, p, C, dx, _, rfl, zD, cl, n2, (by show 1 < 1000; decide), ?_⟩
 rw [yH, Ma, Hy]
 exact q
end
end fX
set_option maxHeartbeats 4000000
namespace fX
open PySem L2
seal PE PT PW PA PS jG PG tE PI PO iV ir uT bL iW qU sy PC wD
local macro_rules | `(tactic| walk_at "rd1") => `(tactic| first
 | (refine And.intro rfl ?_)
 | (refine And.intro (by assumption) ?_)
 | (refine And.intro (fun _ e => e) ?_)
 | (refine And.intro (au.str _) ?_) | (refine And.intro (au.int _) ?_) | (refine And.intro (au.bl _) ?_) | (refine And.intro au.non ?_)
 | (refine cQ ?_) | (refine aM ?_)
 | (apply Exists.intro))
local macro_rules | `(tactic| walk_at "rd") => `(tactic| repeat (walk_at "rd1"))
def Z2 {K : W.Frag} {mg : Str → Option Value} {A : dW} (T : Txt K mg A) (H : Hp) (z : Str) : Thing K H (.str z) := ⟨_, _, _, _, .old (.str z), T.T6, T.QV, T.qy, fun h => (by cases h), fun _ => ⟨z, rfl⟩, fun _ h => (by cases h), fun _ _ => rfl, fun h => (by cases h), fun _ h => (by cases h)⟩
def Mf (Jw : Int → List Nat) : Sp := fun vs H Q _ => ∃ p n, vs = [.ref p, .int n] ∧ n.natAbs < 10 ^ 60 ∧ ∀ H', aB H H' → Q (.str (S (Jw n))) H'
section
variable {P : Program} {w : World} {K : W.Frag} {mg : Str → Option Value} {base : Heap} {A : dW}
theorem Ua (T : Txt K mg A) : aF P w K mg base cD 1 A.iH A.iI ["self", "answer"] (Mf cj) := by
 refine T.Dr.ok By (fun vs H Q E h => ?_) (fun cdv A0 outer s H vs Q E hr h => ?_)
 · obtain ⟨p, z, rfl, _⟩ := h
   rfl
 obtain ⟨p, n, rfl, hn, q⟩ := h
 refine ⟨_, (zF (zG (yL yT (by rfl) T.oF Bt.str (zA (pv 1) zB)))), ?_⟩
 refine ⟨_, rfl, n, rfl, RP (Nat.lt_trans hn (by symm)), ?_⟩
 rw [str_is]
 exact q _ (aB.refl _)
end
end fX
namespace fX
open PySem L2
seal PE PT PW PA PS jG PG tE PI PO iV ir uT bL iW qU sy PC wD
local macro_rules | `(tactic| walk_at "rd1") => `(tactic| first
 | (refine And.intro rfl ?_)
 | (refine And.intro (by assumption) ?_)
 | (refine And.intro (fun _ e => e) ?_)
 | (refine And.intro (au.str _) ?_) | (refine And.intro (au.int _) ?_) | (refine And.intro (au.bl _) ?_) | (refine And.intro au.non ?_)
 | (refine cQ ?_) | (refine aM ?_)
 | (apply Exists.intro))
local macro_rules | `(tactic| walk_at "rd") => `(tactic| repeat (walk_at "rd1"))
theorem Ke (m : Nat) : Txt.zfill (S (dig m)) 3 = S (q9 (dig m)) := by
 unfold Txt.zfill q9
 rw [zW]
 split
 · rename_i h
   rw [show 3 - (dig m).length = 0 by omega]; rfl
 · rename_i h
   have hz : zfilled (S (dig m)) ((3 : Int).toNat - (dig m).length) = Builtin.Str.padded (S (dig m)) ((3 : Int).toNat - (dig m).length) 0 48 := by
     unfold zfilled
     split
     · rename_i e
       have : 43 ∈ dig m := by
         have e' : (dig m)[0]? = some 43 := by simpa [S] using e
         exact List.mem_of_getElem? e'
       have := mK this; omega
     · rename_i e
       have : 45 ∈ dig m := by
         have e' : (dig m)[0]? = some 45 := by simpa [S] using e
         exact List.mem_of_getElem? e'
       have := mK this; omega
     · rfl
   rw [hz]
   unfold Builtin.Str.padded
   refine yY ?_
   rw [dq]
   show (Array.replicate _ 48 ++ (S (dig m)).cps ++ Array.replicate 0 48).toList = _
   rw [Array.toList_append, Array.toList_append]
   simp [S]
theorem Q6 {f : List Nat} (h : 2 ≤ f.length) : nA f none (some (-2)) = f.take (f.length - 2) := by
 unfold nA
 have e1 : HT.tH f.length 0 none = 0 := rfl
 have e2 : HT.tH f.length f.length (some (-2)) = f.length - 2 := by
   show (if (-2 : Int) < 0 then ((-2 : Int) + f.length).toNat else min (-2 : Int).toNat f.length) = _
   rw [if_pos (by decide)]; omega
 rw [e1, e2, List.drop_zero, Nat.sub_zero]
theorem Q7 {f : List Nat} (h : 2 ≤ f.length) : nA f (some (-2)) none = f.drop (f.length - 2) := by
 unfold nA
 have e1 : HT.tH f.length f.length none = f.length := rfl
 have e2 : HT.tH f.length 0 (some (-2)) = f.length - 2 := by
   show (if (-2 : Int) < 0 then ((-2 : Int) + f.length).toNat else min (-2 : Int).toNat f.length) = _
   rw [if_pos (by decide)]; omega
 rw [e1, e2, List.take_of_length_le (by rw [List.length_drop]; omega)]
theorem Wu (n : Int) : (if n < 0 then -n else n) = ((n.natAbs : Nat) : Int) := by split <;> omega
theorem R5 (m : Nat) : ((toString ((m : Nat) : Int) : String) : Str) = S (dig m) := by
 rw [str_is]; unfold cj; rw [if_neg (by omega)]; rfl
def aen : Sp := fun vs H Q _ => ∃ n : Int, vs = [.int n] ∧ n.natAbs < 10 ^ 60 ∧ ∀ H', aB H H' → Q (.str (S (cU n))) H'
def abk : Sp := fun vs H Q _ => ∃ z, vs = [.str z] ∧ bN 1000 z ∧ ∀ H', aB H H' → Q (jE (mL (cd z))) H'
section
variable {P : Program} {w : World} {K : W.Frag} {mg : Str → Option Value} {base : Heap} {A : dW}
theorem uE (T : Txt K mg A) : aF P w K mg base cD 1 A.j9 A.pG ["hundredths"] aen := by
 refine T.Ir.ok oH (fun vs H Q E h => ?_) (fun cdv A0 outer s H vs Q E hr h => ?_)
 · obtain ⟨n, rfl, _⟩ := h
   rfl
 obtain ⟨n, rfl, hn, q⟩ := h
 refine ⟨_, (zC (zY (i := 1) oH.nd rfl (by first | exact Or.inl rfl | exact Or.inr rfl) (tL PySem.F.plainAttrs_str PySem.F.slot_str_zfill PySem.F.type_str_zfill Nj (yL yT (by rfl) T.oF Bt.str (zA (zR MT (by rfl) T.ZP Bt.abs (zA (pv 0) zB)) zB)) (zA zE zB)))
     (zC (zY (i := 2) oH.nd rfl (by first | exact Or.inl rfl | exact Or.inr rfl) (xD (zQ MK (pv 0) zE (zS _)) zJ zJ))
     (zF (zG (zL zH (zL zH (zL zH (pv 2) (yW pD (pv 1) xG (xA (vI pC zE)))) zJ) (yW pD (pv 1) (xA (vI pC zE)) xG)))))), ?_⟩
 have hl := qe (dig n.natAbs)
 have hd := uW (k := 60) (by decide) hn
 have q := q _ (aB.refl _)
 have ef : (dU n).length = (q9 (dig n.natAbs)).length := rfl
 refine ⟨_, rfl, n, rfl, ?_⟩
 rw [Wu]
 refine ⟨_, rfl, RP (Nat.lt_trans (show (((n.natAbs : Nat) : Int)).natAbs < 10 ^ 60 by omega) (by symm)), ?_⟩
 rw [R5]
 refine ⟨rfl, _, _, rfl, rfl, (by symm), ?_⟩
 rw [Ke]
 have sz : (S (dU n)).length ≤ sizeLine := zN (m := 1000) (by rw [zW]; omega)
 have fin : ∀ sg : List Nat, sg.length ≤ 1 → Q (.str (S (sg ++ ((dU n).take ((dU n).length - 2) ++ 46 :: (dU n).drop ((dU n).length - 2))))) H → aaz (XS (fun x y H Q => ∃ i j, x = V.str i ∧ y = V.str j ∧ i.length + j.length ≤ sizeLine ∧ Q (V.str (i ++ j)) H) (XS (fun x y H Q => ∃ i j, x = V.str i ∧ y = V.str j ∧ i.length + j.length ≤ sizeLine ∧ Q (V.str (i ++ j)) H) (XS (fun x y H Q => ∃ i j, x = V.str i ∧ y = V.str j ∧ i.length + j.length ≤ sizeLine ∧ Q (V.str (i ++ j)) H) (UW 2) (tSl (fun x lo hi H Q => ∃ z, x = V.str z ∧ z.length ≤ sizeLine ∧ Q (V.str (S (nA (cd z) lo hi))) H) (UW 1) Kz (Vf (tUn (rU fun i => .int (-i)) (tC (V.int 2)))))) (tC (V.str ‹"."›))) (tSl (fun x lo hi H Q => ∃ z, x = V.str z ∧ z.length ≤ sizeLine ∧ Q (V.str (S (nA (cd z) lo hi))) H) (UW 1) (Vf (tUn (rU fun i => .int (-i)) (tC (V.int 2)))) Kz)) { nx := fun _ H' => Q .non H', rt := Q } [some (.int n), some (.str (S (dU n))), some (.str (S sg))] H := fun sg hs qq => by
   refine ⟨_, rfl, _, rfl, _, rfl, _, rfl, _, rfl, sz, ?_⟩
   rw [dq, Q6 (by omega)]
   refine ⟨_, _, rfl, rfl, zN (m := 1000) (by rw [zW, zW, List.length_take]; omega), _, _, rfl, rfl, zN (m := 1000) (by rw [yD, yF, List.length_append, dq, dq, List.length_take]; show _ + 1 ≤ 1000; omega), ?_⟩
   refine ⟨_, rfl, _, rfl, _, rfl, _, rfl, sz, ?_⟩
   rw [dq, Q7 (by omega), show ‹"."› = S [46] by symm, xN, xN]
   refine ⟨_, _, rfl, rfl, zN (m := 1000) (by rw [zW, zW, List.length_append, List.length_append, List.length_take, List.length_drop]; show _ + _ + 1 + _ ≤ 1000; omega), ?_⟩
   rw [xN, List.append_assoc, List.append_assoc]
   exact qq
 unfold cU sgn at q
 refine ⟨_, rfl, _, _, rfl, rfl, _, rfl, du (fun c => ?_) (fun c => ?_)⟩
 · rw [if_pos (of_decide_eq_true c)] at q
   have := fin [45] (by decide) q
   rw [show S [45] = ‹"-"› by symm] at this
   exact this
 · rw [if_neg (fun z => c (decide_eq_true z))] at q
   have := fin [] (by decide) q
   rw [show S [] = ‹""› by symm] at this
   exact this
end
end fX
namespace fX
open PySem L2
seal PE PT PW PA PS jG PG tE PI PO iV ir uT bL iW qU sy PC wD
local macro_rules | `(tactic| walk_at "rd1") => `(tactic| first
 | (refine And.intro rfl ?_)
 | (refine And.intro (by assumption) ?_)
 | (refine And.intro (fun _ e => e) ?_)
 | (refine And.intro (au.str _) ?_) | (refine And.intro (au.int _) ?_) | (refine And.intro (au.bl _) ?_) | (refine And.intro au.non ?_)
 | (refine cQ ?_) | (refine aM ?_)
 | (apply Exists.intro))
local macro_rules | `(tactic| walk_at "rd") => `(tactic| repeat (walk_at "rd1"))
theorem Y0 (z : Str) : cd (Txt.replace (Txt.replace z ‹"-"› ‹""›) ‹"."› ‹""›) = gA (cd z) := by
 rw [show ‹"-"› = S [45] by symm, show ‹"."› = S [46] by symm, show ‹""› = S [] by symm, wG, wG]
 rfl
theorem Wv (l : List Nat) : (gA l).length ≤ l.length := Nat.le_trans (List.length_filter_le _ _) (List.length_filter_le _ _)
theorem Ub {l : List Nat} (h : l.all inF = true) (hl : l.length ≤ 60) : 0 ≤ val l ∧ (val l).natAbs < 10 ^ 60 := by
 obtain ⟨a, b⟩ := Az l.length l rfl h
 have hp : (10 : Int) ^ l.length ≤ 10 ^ 60 := by
   have : (10 : Nat) ^ l.length ≤ 10 ^ 60 := Nat.pow_le_pow_right (by decide) hl
   have e1 : ((10 ^ l.length : Nat) : Int) = (10 : Int) ^ l.length := by simp
   have e2 : ((10 ^ 60 : Nat) : Int) = (10 : Int) ^ 60 := by simp
   omega
 refine ⟨a, ?_⟩
 have e2 : ((10 ^ 60 : Nat) : Int) = (10 : Int) ^ 60 := by simp
 omega
section
variable {P : Program} {w : World} {K : W.Frag} {mg : Str → Option Value} {base : Heap} {A : dW}
theorem BP (T : Txt K mg A) : qd P w K mg base cD 2 A.iD A.lM ["text"] abk := by
 have pU := uD (P := P) (w := w) (base := base) T
 have lZ := qF (P := P) (w := w) (base := base) T
 have pW := uE (P := P) (w := w) (base := base) T
 refine T.Dl.okP ig (fun vs H Q E h => ?_) (fun cdv A0 outer s H vs Q E hr h => ?_)
 · obtain ⟨n, rfl, _⟩ := h
   rfl
 obtain ⟨z, rfl, hz, q⟩ := h
 refine ⟨_, (J3 (Yx (i := 1) ig.nd rfl (by first | exact Or.inl rfl | exact Or.inr rfl) (Cq (Cq (PE.made (pv 0)))))
     (zC (yB (PW.pt (xJ (yM (yA (zI pU ‹hr› rfl T.vP T.vO T.vN .nil zM (zA (pv 1) zB)))) (xC (zQ Rx (zR xS (by rfl) T.jy PySem.boot_len (zA (pv 1) zB)) (xL rfl T.Hc) (zS _))))) (zF (zG yS)) zO)
     (zC (zY (i := 2) ig.nd rfl (by first | exact Or.inl rfl | exact Or.inr rfl) (zI lZ ‹hr› rfl T.sI T.sG T.sE .nil zM (zA (pv 1) zB)))
     (zC (zY (i := 3) ig.nd rfl (by first | exact Or.inl rfl | exact Or.inr rfl) (xD (yA (tL PySem.F.plainAttrs_str PySem.F.slot_str_startswith PySem.F.type_str_startswith vL (pv 0) (zA zJ zB))) (vI pC (pv 2)) (pv 2)))
     (zF (zG (xD (zQ yR (zI pW ‹hr› rfl T.vU T.vR T.vQ .nil zM (zA (pv 3) zB)) (pv 0) (zS _)) (pv 3) yS))))))), ?_⟩
 have hzl := hz.len
 have e0 : ‹""›.length = 0 := by symm
 have l1 : (Txt.replace z ‹"-"› ‹""›).length ≤ z.length := by
   rw [yD, show ‹"-"› = S [45] by symm, show ‹""› = S [] by symm, wG, yD]
   exact List.length_filter_le _ _
 refine ⟨_, rfl, z, rfl, (by rw [e0]; omega), _, rfl, (by rw [e0]; omega), ?_⟩
 have ef := Y0 z
 generalize hF : Txt.replace (Txt.replace z ‹"-"› ‹""›) ‹"."› ‹""› = F at ef
 have hFl : F.length ≤ 1000 := by rw [yD, ef]; have := Wv (cd z); rw [← yD] at this; omega
 refine ⟨_, rfl, F, rfl, zN (m := 1000) hFl, fun H1 s1 => ⟨_, rfl, ?_⟩⟩
 rw [ef]
 have q := fun H' (s' : aB H1 H') => q H' (s1.trans s')
 cases hb : Dh (gA (cd z)) with
 | false =>
   have e : mL (cd z) = none := by
     unfold mL
     rw [if_pos]
     by_cases h0 : (gA (cd z)).length = 0
     · exact .inl h0
     · refine .inr (.inl ?_)
       cases ha : (gA (cd z)).all inF with
       | false => rfl
       | true => rw [(p7 _).mpr ⟨by omega, ha⟩] at hb; cases hb
   rw [e] at q
   exact cQ (cQ (q _ (aB.refl _)))
 | true =>
   obtain ⟨hp, ha⟩ := (p7 _).mp hb
   refine aM ⟨_, rfl, F, rfl, zN (m := 1000) hFl, _, _, rfl, rfl, _, rfl, ?_⟩
   rw [yD, ef]
   refine du (fun c => ?_) (fun c => ?_)
   · have c' : (60 : Int) < (gA (cd z)).length := of_decide_eq_true c
     have e : mL (cd z) = none := by unfold mL; rw [if_pos (.inr (.inr (by omega)))]
     rw [e] at q
     exact q _ (aB.refl _)
   · have c' : ¬ (60 : Int) < (gA (cd z)).length := fun h => c (decide_eq_true h)
     have e : mL (cd z) = (if cU (if (cd z).take 1 = [45] then -val (gA (cd z)) else val (gA (cd z))) = cd z then some (if (cd z).take 1 = [45] then -val (gA (cd z)) else val (gA (cd z))) else none) := by
       unfold mL
       rw [if_neg]
       rintro (h | h | h)
       · omega
       · rw [ha] at h; cases h
       · omega
     rw [e] at q
     obtain ⟨v0, v1⟩ := Ub ha (by omega)
     refine ⟨_, rfl, F, rfl, hFl, (by rw [ef]; exact ha), ?_⟩
     rw [ef]
     have fin : ∀ g : Int, g.natAbs < 10 ^ 60 → (∀ H', aB H1 H' → Q (jE (if cU g = cd z then some g else none)) H') → ∃ n : Int, [V.int g] = [V.int n] ∧ n.natAbs < 10 ^ 60 ∧ ∀ H', aB H1 H' → ((XS rEq (tC (.str (S (cU n)))) (tC (.str z))) [] H' fun v Df => ∃ b, v = .bl b ∧ if b = true then Q (.int g) Df else Q .non Df) := fun g hg qq => by
       refine ⟨g, rfl, hg, fun H2 s2 => ⟨rfl, _, rfl, ?_⟩⟩
       have := qq H2 s2
       refine du (fun d => ?_) (fun d => ?_)
       · have d' : cU g = cd z := by have := V.str.inj (of_decide_eq_true d); rw [← this]; rfl
         rw [if_pos d'] at this
         exact this
       · have d' : ¬ cU g = cd z := fun h => d (decide_eq_true (by rw [h, fL]))
         rw [if_neg d'] at this
         exact this
     refine ⟨_, rfl, rfl, z, _, rfl, rfl, _, rfl, ?_⟩
     rw [show ‹"-"› = S [45] by symm, RG]
     refine du (fun d => ?_) (fun d => ?_)
     · have d' : (cd z).take 1 = [45] := of_decide_eq_true d
       rw [if_pos d'] at q
       obtain ⟨n, e1, e2, e3⟩ := fin _ (by omega) q
       cases e1
       refine ⟨_, rfl, _, rfl, _, rfl, _, rfl, e2, fun H2 s2 => ?_⟩
       obtain ⟨k1, b, k2, k3⟩ := e3 H2 s2
       refine ⟨_, rfl, k1, _, k2, ?_⟩
       cases b with
       | true => exact cQ ⟨_, rfl, k3⟩
       | false => exact aM k3
     · have d' : ¬ (cd z).take 1 = [45] := fun h => d (decide_eq_true h)
       rw [if_neg d'] at q
       obtain ⟨n, e1, e2, e3⟩ := fin _ (by omega) q
       cases e1
       refine ⟨_, rfl, _, rfl, _, rfl, e2, fun H2 s2 => ?_⟩
       obtain ⟨k1, b, k2, k3⟩ := e3 H2 s2
       refine ⟨_, rfl, k1, _, k2, ?_⟩
       cases b with
       | true => exact cQ ⟨_, rfl, k3⟩
       | false => exact aM k3
end
end fX
namespace fX
open PySem L2
seal PE PT PW PA PS jG PG tE PI PO iV ir uT bL iW qU sy PC wD
local macro_rules | `(tactic| walk_at "rd1") => `(tactic| first
 | (refine And.intro rfl ?_)
 | (refine And.intro (by assumption) ?_)
 | (refine And.intro (fun _ e => e) ?_)
 | (refine And.intro (au.str _) ?_) | (refine And.intro (au.int _) ?_) | (refine And.intro (au.bl _) ?_) | (refine And.intro au.non ?_)
 | (refine cQ ?_) | (refine aM ?_)
 | (apply Exists.intro))
local macro_rules | `(tactic| walk_at "rd") => `(tactic| repeat (walk_at "rd1"))
section
variable {P : Program} {w : World} {K : W.Frag} {mg : Str → Option Value} {base : Heap} {A : dW}
theorem Uc (T : Txt K mg A) : aF P w K mg base cD 2 A.iJ A.iK ["self", "answer"] (Mf cU) := by
 have pW := uE (P := P) (w := w) (base := base) T
 refine T.Dt.ok BJ (fun vs H Q E h => ?_) (fun cdv A0 outer s H vs Q E hr h => ?_)
 · obtain ⟨p, z, rfl, _⟩ := h
   rfl
 obtain ⟨p, n, rfl, hn, q⟩ := h
 refine ⟨_, (zF (zG (zI pW ‹hr› rfl T.vU T.vR T.vQ .nil zM (zA (pv 1) zB)))), ?_⟩
 exact ⟨_, rfl, n, rfl, hn, q⟩
end
end fX
set_option maxHeartbeats 4000000
namespace fX.N
open PySem L2
seal PE PT PW PA PS jG PG tE PI PO iV ir uT bL iW qU sy PC wD
local macro_rules | `(tactic| walk_at "rd1") => `(tactic| first
 | (refine And.intro rfl ?_)
 | (refine And.intro (by assumption) ?_)
 | (refine And.intro (fun _ e => e) ?_)
 | (refine And.intro (au.str _) ?_) | (refine And.intro (au.int _) ?_) | (refine And.intro (au.bl _) ?_) | (refine And.intro au.non ?_)
 | (refine cQ ?_) | (refine aM ?_)
 | (apply Exists.intro))
local macro_rules | `(tactic| walk_at "rd") => `(tactic| repeat (walk_at "rd1"))
def kws : List V := [.str "and", .str "each", .str "end", .str "is", .str "not", .str "or", .str "unless", .str "when"]
def Mw (c : Nat) : Bool := !(Builtin.Str.occurrences "abcdefghijklmnopqrstuvwxyz" (S [c]) 0 ("abcdefghijklmnopqrstuvwxyz" : Str).length 1).isEmpty
def nameB (z : Str) : Bool := !(inV (.str z) kws) && decide ((1 : Int) ≤ z.length) && decide ((z.length : Int) ≤ 12) && (cd z).all Mw
def nameV : V → Bool
 | .str z => nameB z
 | _ => false
def Ok (K : W.Frag) (H : Hp) (x : V) : Prop := (∃ _ : Thing K H x, True) ∧ ∀ z, x = .str z → bN 900 z
theorem Ok.same {K : W.Frag} {H H' : Hp} {x : V} (h : Ok K H x) (e : aB H H') : Ok K H' x := ⟨let ⟨⟨t, _⟩, _⟩ := h; ⟨t.same e, trivial⟩, h.2⟩
def strsOf (xs : List V) : List Str := xs.filterMap fun x => match x with | .str z => some z | _ => none
def iU (xs : List V) : Bool := xs.all nameV && decide ((gR (strsOf xs)).length = xs.length)
theorem qW : ∀ {xs : List V}, xs.all nameV = true → xs = (strsOf xs).map V.str
 | [], _ => rfl
 | x :: r, h => by
   rw [List.all_cons, Bool.and_eq_true] at h
   cases x with
   | str z => show V.str z :: r = V.str z :: (strsOf r).map V.str; rw [← qW h.2]
   | _ => cases h.1
theorem Hz (ws : List Str) : strsOf (ws.map V.str) = ws := by
 induction ws with
 | nil => rfl
 | cons a r ih => show a :: strsOf (r.map V.str) = _; rw [ih]
theorem CV (ws : List Str) : iU (ws.map V.str) = (ws.all nameB && decide ws.Nodup) := by
 unfold iU
 rw [Hz, List.length_map, List.all_map]
 congr 1
 rw [Bool.eq_iff_iff, decide_eq_true_iff, decide_eq_true_iff]
 exact QB ws
def HB (K : W.Frag) : Sp := fun vs H Q _ => ∃ x, vs = [x] ∧ Ok K H x ∧ ∀ H', aB H H' → Q (.bl (nameV x)) H'
section
variable {P : Program} {w : World} {K : W.Frag} {mg : Str → Option Value} {base : Heap} {A : dW}
theorem xq (T : Txt K mg A) : aF P w K mg base cD 1 A.qi A.uZ ["thing"] (HB K) := by
 refine T.J7.ok Hr (fun vs H Q E h => ?_) (fun cdv A0 outer s H vs Q E hr h => ?_)
 · obtain ⟨x, rfl, _⟩ := h
   rfl
 obtain ⟨x, rfl, ⟨⟨th, _⟩, hx⟩, q⟩ := h
 refine ⟨_, (zC (yB (PW.pt (xJ (yM (yA (zR yO (by rfl) T.aJ Bt.isinstance (zA (pv 0) (zA (xO (v := .ty "str") rfl T.oF Bt.str rfl) zB))))) (xC (zQ pY (pv 0) (xL rfl T.Hd) (by rfl))))) (zF (zG xK)) zO)
     (zF (zG (tD (MN xY xY zE (zR xS (by rfl) T.jy PySem.boot_len (zA (pv 0) zB)) (xL rfl T.uh)) (wA (zR (yd rfl) (by rfl) T.RW Bt.all (zA (xU (yQ (x := "sign") (M := ["thing"]) rfl (by rfl)) rfl (Ay (pv 0)) (fun _ _ _ _ => (xF Av (pv 0) (xL rfl T.Kd) (by rfl)))) zB))))))), ?_⟩
 refine ⟨_, rfl, _, _, _, _, rfl, rfl, th.ty, th.ks, _, rfl, ?_⟩
 cases hb : th.bs with
 | false =>
   refine cQ ?_
   have e : nameV x = false := by cases x <;> first | rfl | (rw [th.ns _ rfl] at hb; cases hb)
   rw [e] at q
   exact q _ (aB.refl _)
 | true =>
   obtain ⟨z, rfl⟩ := th.hs hb
   have hz := (hx z rfl).size
   have q : ∀ H', aB H H' → Q (.bl (nameB z)) H' := q
   have qN := T.Hf H
   refine aM ⟨_, rfl, _, _, rfl, .inr qN, rfl, rfl, _, rfl, ?_⟩
   refine du (fun c => ?_) (fun c => ?_)
   · have e : nameB z = false := by
       unfold nameB
       rw [show inV (.str z) kws = true from c]
       rfl
     rw [e] at q
     exact q _ (aB.refl _)
   have c0 : inV (.str z) kws = false := by
     cases e : inV (.str z) kws with
     | false => rfl
     | true => exact absurd e c
   walk_at "rd"
   refine du (fun c1 => ?_) (fun c1 => ?_)
   · walk_at "rd"
     refine du (fun c2 => ?_) (fun c2 => ?_)
     · walk_at "rd"
       refine p6 hz (fun i ys H' => H = H' ∧ ys = ((cd z).take i).map fun c => V.bl (Mw c)) ⟨rfl, rfl⟩ (fun i c ys H' hc hl hw => ?_) (fun ys H' hl hw p hp => ?_)
       · obtain ⟨rfl, rfl⟩ := hw
         walk_at "rd"
         rw [List.take_succ, hc]
         simp [Mw]
       · obtain ⟨rfl, rfl⟩ := hw
         have e : (cd z).take z.length = cd z := List.take_of_length_le (by rw [yD]; exact Nat.le_refl _)
         rw [e]
         refine ⟨p, (cd z).map Mw, rfl, bz.of (by rw [zD, List.map_map]; rfl), ?_⟩
         have e2 : nameB z = ((cd z).map Mw).all id := by
           unfold nameB
           rw [c0, c1, c2, List.all_map]
           rfl
         rw [e2] at q
         exact q _ (zK hp _)
     · have e : nameB z = false := by
         unfold nameB
         rw [show decide ((z.length : Int) ≤ 12) = false from Bool.eq_false_iff.mpr c2]
         simp
       rw [e] at q
       exact q _ (aB.refl _)
   · have e : nameB z = false := by
       unfold nameB
       rw [show decide ((1 : Int) ≤ z.length) = false from Bool.eq_false_iff.mpr c1]
       simp
     rw [e] at q
     refine ⟨_, rfl, aM ?_⟩
     exact q _ (aB.refl _)
end
end fX.N
namespace fX.N
open PySem L2
seal PE PT PW PA PS jG PG tE PI PO iV ir uT bL iW qU sy PC wD
local macro_rules | `(tactic| walk_at "rd1") => `(tactic| first
 | (refine And.intro rfl ?_)
 | (refine And.intro (by assumption) ?_)
 | (refine And.intro (fun _ e => e) ?_)
 | (refine And.intro (au.str _) ?_) | (refine And.intro (au.int _) ?_) | (refine And.intro (au.bl _) ?_) | (refine And.intro au.non ?_)
 | (refine cQ ?_) | (refine aM ?_)
 | (apply Exists.intro))
local macro_rules | `(tactic| walk_at "rd") => `(tactic| repeat (walk_at "rd1"))
abbrev jF (m : Int) : List (Str × V) := [("low", .int 0), ("high", .int m)]
def Mg (l : List Nat) : List (List Nat) := if l = [45] then [] else cR l
abbrev vs (ps : List (List Nat)) : List V := ps.map fun l => V.str (S l)
theorem Kf {sep : List Nat} {c : Nat} : ∀ {ps : List (List Nat)} {p : List Nat}, p ∈ ps → c ∈ p → c ∈ aR sep ps
 | [x], p, h, k => by rw [List.mem_singleton.mp h] at k; exact k
 | x :: y :: r, p, h, k => by
   show c ∈ x ++ sep ++ aR sep (y :: r)
   rcases List.mem_cons.mp h with e | e
   · subst e; simp [k]
   · have := Kf (sep := sep) e k; simp [this]
theorem Kg {sep : List Nat} : ∀ {ps : List (List Nat)} {p : List Nat}, p ∈ ps → p.length ≤ (aR sep ps).length
 | [x], p, h => by rw [List.mem_singleton.mp h]; exact Nat.le_refl _
 | x :: y :: r, p, h => by
   show p.length ≤ (x ++ sep ++ aR sep (y :: r)).length
   rw [List.length_append, List.length_append]
   rcases List.mem_cons.mp h with e | e
   · subst e; omega
   · have := Kg (sep := sep) e; omega
def Q5 (K : W.Frag) : Sp := fun vs H Q _ => ∃ p C dx lo hi, vs = [.ref p, .int lo, .int hi] ∧ H p = some (.ins C dx []) ∧ uU K C ∧ aD K C "low" ∧ aD K C "high" ∧ Q .non (upd H p (.ins C dx [("low", .int lo), ("high", .int hi)]))
def Y4 (A : dW) : Sp := fun vs H Q _ => ∃ p dx m, vs = [.ref p, .int m] ∧ H p = some (.ins A.km dx []) ∧ Q .non (upd H p (.ins A.km dx (jF m)))
def Fit (K : W.Frag) (H : Hp) (m : Int) (x : V) (b : Bool) : Prop := (∃ p xs, x = .ref p ∧ lG K H p xs ∧ xs.length ≤ 1000 ∧ (∀ y ∈ xs, Ok K H y) ∧ b = (decide ((xs.length : Int) ≤ m) && iU xs)) ∨ (∃ t, Uw K H x t ∧ W.kitOne K t (.type "tuple") = some false ∧ b = false)
theorem Fit.same {K : W.Frag} {H H' : Hp} {m : Int} {x : V} {b : Bool} (h : Fit K H m x b) (e : aB H H') : Fit K H' m x b := by
 rcases h with ⟨p, xs, h1, h2, h3, h4, h5⟩ | ⟨t, h1, h2, h3⟩
 · exact .inl ⟨p, xs, h1, e.aa0 h2, h3, fun y hy => (h4 y hy).same e, h5⟩
 · exact .inr ⟨t, e.aec h1, h2, h3⟩
def Mf (K : W.Frag) : Sp := fun vs H Q _ => ∃ (p t : Addr) (ws : List Str), vs = [.ref p, .ref t] ∧ lG K H t (ws.map V.str) ∧ (ws.map (·.length)).sum + ws.length * 1 ≤ 1000 ∧ Q (.str (if ws.length > 0 then FZ " " ws else "-")) H
theorem T9 : (("high" : Str) == ("low" : Str)) = false := by symm
theorem Ma (v : V) : ji "low" v [] = [(("low" : Str), v)] := rfl
theorem Hy (v w : V) : ji "high" w [(("low" : Str), v)] = [(("low" : Str), v), (("high" : Str), w)] := by
 unfold ji
 rw [if_neg (by symm)]; rfl
section
variable {P : Program} {w : World} {K : W.Frag} {mg : Str → Option Value} {base : Heap} {A : dW}
theorem vo (T : Txt K mg A) : aF P w K mg base cD 1 A.dX A.iG ["self", "low", "high"] (Q5 K) := by
 refine T.sJ.ok qz (fun vs H Q E h => ?_) (fun cdv A0 outer s H vs Q E hr h => ?_)
 · obtain ⟨p, C, dx, lo, hi, rfl, _⟩ := h
   rfl
 obtain ⟨p, C, dx, lo, hi, rfl, hp, cl, n1, n2, q⟩ := h
 refine ⟨_, (zC (yN (pv 0) (pv 1) rfl)
     (zF (yN (pv 0) (pv 2) rfl))), ?_⟩
 refine ⟨_, rfl, _, rfl, p, C, dx, _, rfl, hp, cl, n1, by decide, ?_⟩
 refine ⟨_, rfl, _, rfl, p, C, dx, _, rfl, zD, cl, n2, (by show 1 < 1000; decide), ?_⟩
 rw [yH, Ma, Hy]
 exact q
theorem Ww (T : Txt K mg A) : aF P w K mg base cD 3 A.jR A.jT ["self", "most"] (Y4 A) := by
 have cg := vo (P := P) (w := w) (base := base) T
 refine T.Bm.ok Ae (fun vs H Q E h => ?_) (fun cdv A0 outer s H vs Q E hr h => ?_)
 · obtain ⟨p, dx, m, rfl, _⟩ := h
   rfl
 obtain ⟨p, dx, m, rfl, hp, q⟩ := h
 refine ⟨_, (zF (uQ (tM T.rR cg ‹hr› rfl T.QW T.fY zM (zA (pv 0) (zA zE (zA (pv 1) zB)))))), ?_⟩
 exact ⟨_, rfl, _, rfl, p, A.km, dx, 0, m, rfl, hp, T.Ho, T.LQ, T.vY, q⟩
end
end fX.N
set_option maxHeartbeats 4000000
namespace fX
open PySem L2
seal PE PT PW PA PS jG PG tE PI PO iV ir uT bL iW qU sy PC wD
local macro_rules | `(tactic| walk_at "rd1") => `(tactic| first
 | (refine And.intro rfl ?_)
 | (refine And.intro (by assumption) ?_)
 | (refine And.intro (fun _ e => e) ?_)
 | (refine And.intro (au.str _) ?_) | (refine And.intro (au.int _) ?_) | (refine And.intro (au.bl _) ?_) | (refine And.intro au.non ?_)
 | (refine cQ ?_) | (refine aM ?_)
 | (apply Exists.intro))
local macro_rules | `(tactic| walk_at "rd") => `(tactic| repeat (walk_at "rd1"))
inductive KU where
 | yn
 | wh (lo hi : Int)
 | mo (lo hi : Int)
 | pk (ws : List Str)
 | nm (m : Nat)
inductive AV where
 | b (x : Bool)
 | i (n : Int)
 | s (z : Str)
 | t (ws : List Str)
 deriving DecidableEq
abbrev YN : List (Str × Bool) := [("yes", true), ("no", false)]
structure GoodW (ws : List Str) : Prop where
 nd : ws.Nodup
 wd : ∀ z ∈ ws, z.length ≤ 12 ∧ 1 ≤ z.length ∧ ∀ c ∈ cd z, 97 ≤ c ∧ c ≤ 122
def KU.Good : KU → Prop
 | .yn => True
 | .wh lo hi => lo ≤ hi ∧ lo.natAbs < 10 ^ 60 ∧ hi.natAbs < 10 ^ 60
 | .mo lo hi => lo ≤ hi ∧ lo.natAbs < 10 ^ 60 ∧ hi.natAbs < 10 ^ 60
 | .pk ws => GoodW ws ∧ 1 ≤ ws.length ∧ ws.length ≤ 6
 | .nm m => m ≤ 6
def KU.low : KU → Int
 | .yn => 0
 | .wh lo _ => lo
 | .mo lo _ => lo
 | .pk _ => 0
 | .nm _ => 0
def KU.high : KU → Int
 | .yn => 1
 | .wh _ hi => hi
 | .mo _ hi => hi
 | .pk ws => (ws.length : Int) - 1
 | .nm m => m
def fit : KU → AV → Bool
 | .yn, .b _ => true
 | .wh lo hi, .i n => decide (lo ≤ n) && decide (n ≤ hi)
 | .mo lo hi, .i n => decide (lo ≤ n) && decide (n ≤ hi)
 | .pk ws, .s z => decide (z ∈ ws)
 | .nm m, .t ws => decide ((ws.length : Int) ≤ m) && N.iU (ws.map V.str)
 | _, _ => false
def ans : KU → List Nat → Option AV
 | .yn, l => (YN.lookup (S l)).map AV.b
 | .wh _ _, l => (fM l 60).map AV.i
 | .mo _ _, l => (mL l).map AV.i
 | .pk _, l => some (.s (S l))
 | .nm _, l => some (.t ((N.Mg l).map S))
def Jw : KU → AV → List Nat
 | .yn, .b x => if x = true then cd "yes" else cd "no"
 | .wh _ _, .i n => cj n
 | .mo _ _, .i n => cU n
 | .pk _, .s z => cd z
 | .nm _, .t ws => if ws = [] then [45] else aR [32] (ws.map cd)
 | _, _ => []
theorem Mh {c : Nat} (h : N.Mw c = true) : 97 ≤ c ∧ c ≤ 122 := by
 have e0 : N.Mw c = decide (c ∈ ("abcdefghijklmnopqrstuvwxyz" : Str).cps.toList) := StrLaws.found_one "abcdefghijklmnopqrstuvwxyz" c
 have e : ("abcdefghijklmnopqrstuvwxyz" : Str).cps.toList = (List.range 26).map (97 + ·) := by symm
 rw [e0, e, decide_eq_true_iff] at h
 obtain ⟨k, hk, rfl⟩ := List.mem_map.mp h
 have := List.mem_range.mp hk
 omega
theorem dO {z : Str} (h : N.nameB z = true) : z.length ≤ 12 ∧ 1 ≤ z.length ∧ ∀ c ∈ cd z, 97 ≤ c ∧ c ≤ 122 := by
 unfold N.nameB at h
 simp only [Bool.and_eq_true, decide_eq_true_iff] at h
 obtain ⟨⟨⟨_, h1⟩, h2⟩, h3⟩ := h
 exact ⟨by omega, by omega, fun c hc => Mh (List.all_eq_true.mp h3 c hc)⟩
theorem aeo {m : Nat} {ws : List Str} (h : fit (.nm m) (.t ws) = true) : (ws.length : Int) ≤ m ∧ ws.Nodup ∧ ∀ z ∈ ws, N.nameB z = true := by
 have h : (decide ((ws.length : Int) ≤ m) && N.iU (ws.map V.str)) = true := h
 rw [N.CV] at h
 simp only [Bool.and_eq_true, decide_eq_true_iff] at h
 exact ⟨h.1, h.2.2, List.all_eq_true.mp h.2.1⟩
theorem Wx {z : Str} (h : z.length ≤ 12 ∧ 1 ≤ z.length ∧ ∀ c ∈ cd z, 97 ≤ c ∧ c ≤ 122) : 32 ∉ cd z ∧ cd z ≠ [] ∧ cd z ≠ [45] := by
 refine ⟨fun e => by have := h.2.2 32 e; omega, fun e => ?_, fun e => ?_⟩
 · have := h.2.1; rw [yD, e] at this; exact absurd this (by decide)
 · have := h.2.2 45 (by rw [e]; simp); omega
theorem Ud : ∀ {ps : List (List Nat)}, (∀ p ∈ ps, 32 ∉ p ∧ p ≠ []) → ∀ c, (aR [32] ps).head? = some c → c ≠ 32
 | [x], h, c, k => fun e => (h x (by simp)).1 (by rw [← e]; exact List.mem_of_mem_head? k)
 | x :: y :: r, h, c, k => fun e => by
   have hx := h x (by simp)
   have k' : (x ++ [32] ++ aR [32] (y :: r)).head? = some c := k
   cases x with
   | nil => exact absurd rfl hx.2
   | cons a x =>
     have e2 : a = c := by simpa using k'
     exact hx.1 (by rw [← e, e2]; simp)
theorem R6 : ∀ {ps : List (List Nat)}, ps ≠ [] → (∀ p ∈ ps, 32 ∉ p ∧ p ≠ []) → aR [32] ps ≠ []
 | [], h, _ => absurd rfl h
 | [x], _, h => (h x (by simp)).2
 | x :: y :: r, _, h => fun e => by
   have e' : x ++ [32] ++ aR [32] (y :: r) = [] := e
   simp at e'
theorem Kh : ∀ {ps : List (List Nat)}, (∀ p ∈ ps, 32 ∉ p ∧ p ≠ []) → ∀ c, (aR [32] ps).getLast? = some c → c ≠ 32
 | [x], h, c, k => fun e => (h x (by simp)).1 (by rw [← e]; exact List.mem_of_getLast? k)
 | x :: y :: r, h, c, k => by
   have k' : (x ++ [32] ++ aR [32] (y :: r)).getLast? = some c := k
   have hr : ∀ p ∈ y :: r, 32 ∉ p ∧ p ≠ [] := fun p hp => h p (List.mem_cons_of_mem _ hp)
   rw [List.getLast?_append] at k'
   refine Kh hr c ?_
   cases e : (aR [32] (y :: r)).getLast? with
   | none => exact absurd (List.getLast?_eq_none_iff.mp e) (R6 (by simp) hr)
   | some d => rw [e] at k'; simpa using k'
theorem m7 (sep : List Nat) : ∀ ys : List (List Nat), (aR sep ys).length ≤ (ys.map List.length).sum + ys.length * sep.length
 | [] => Nat.zero_le _
 | [x] => by show x.length ≤ x.length + 0 + 1 * sep.length; omega
 | x :: y :: r => by
   have := m7 sep (y :: r)
   show (x ++ sep ++ aR sep (y :: r)).length ≤ x.length + ((y :: r).map List.length).sum + ((y :: r).length + 1) * sep.length
   rw [List.length_append, List.length_append, Nat.add_mul]
   omega
theorem HD {n : Nat} : ∀ {l : List Str}, (∀ z ∈ l, z.length ≤ n) → (l.map (·.length)).sum ≤ l.length * n
 | [], _ => Nat.zero_le _
 | a :: r, h => by
   have h1 := h a (by simp)
   have h2 := HD (l := r) fun z hz => h z (by simp [hz])
   show a.length + (r.map (·.length)).sum ≤ (r.length + 1) * n
   rw [Nat.add_mul]; omega
theorem mem_join {c : Nat} : ∀ {ps : List (List Nat)}, c ∈ aR [32] ps → c = 32 ∨ ∃ p ∈ ps, c ∈ p
 | [x], h => .inr ⟨x, by simp, h⟩
 | x :: y :: r, h => by
   have h' : c ∈ x ++ [32] ++ aR [32] (y :: r) := h
   rcases List.mem_append.mp h' with k | k
   · rcases List.mem_append.mp k with k | k
     · exact .inr ⟨x, by simp, k⟩
     · exact .inl (by simpa using k)
   · rcases mem_join k with e | ⟨p, hp, e⟩
     · exact .inl e
     · exact .inr ⟨p, List.mem_cons_of_mem _ hp, e⟩
theorem O7 {m : Nat} {ws : List Str} (g : m ≤ 6) (h : fit (.nm m) (.t ws) = true) : qZ (Jw (.nm m) (.t ws)) = Jw (.nm m) (.t ws) ∧ Jw (.nm m) (.t ws) ≠ [] ∧ bN 200 (S (Jw (.nm m) (.t ws))) ∧ N.Mg (Jw (.nm m) (.t ws)) = ws.map cd ∧ (ws.map (·.length)).sum + ws.length * 1 ≤ 1000 := by
 obtain ⟨hl, hnd, hw⟩ := aeo h
 have hw' := fun z hz => dO (hw z hz)
 have hsum := HD (n := 12) fun z hz => (hw' z hz).1
 have hp : ∀ p ∈ ws.map cd, 32 ∉ p ∧ p ≠ [] := fun p hp => by
   obtain ⟨z, hz, rfl⟩ := List.mem_map.mp hp
   have := Wx (hw' z hz)
   exact ⟨this.1, this.2.1⟩
 have es : Jw (.nm m) (.t ws) = if ws = [] then [45] else aR [32] (ws.map cd) := rfl
 rw [es]
 by_cases e : ws = []
 · subst e
   rw [if_pos rfl]
   exact ⟨by decide, by decide, ⟨by decide, by rw [dq]; decide⟩, rfl, by decide⟩
 · rw [if_neg e]
   have hs : cR (aR [32] (ws.map cd)) = ws.map cd := uX (fun e' => e (List.map_eq_nil_iff.mp e')) fun p hp' => (hp p hp').1
   refine ⟨tO (Ud hp) (Kh hp), R6 (fun e' => e (List.map_eq_nil_iff.mp e')) hp, ⟨?_, fun c hc => ?_⟩, ?_, by omega⟩
   · rw [zW]
     have h1 := m7 [32] (ws.map cd)
     have h2 : ((ws.map cd).map List.length).sum = (ws.map (·.length)).sum := by rw [List.map_map]; rfl
     rw [h2, List.length_map, show ([32] : List Nat).length = 1 from rfl] at h1
     omega
   · rw [dq] at hc
     rcases mem_join hc with e' | ⟨p, hp', e'⟩
     · omega
     · obtain ⟨z, hz, rfl⟩ := List.mem_map.mp hp'
       have := (hw' z hz).2.2 c e'; omega
   · unfold N.Mg
     rw [if_neg, hs]
     intro e'
     rw [e', QC (by decide)] at hs
     have : [45] ∈ ws.map cd := by rw [← hs]; simp
     obtain ⟨z, hz, e2⟩ := List.mem_map.mp this
     exact (Wx (hw' z hz)).2.2 e2
theorem Z3 (ws : List Str) : (ws.map cd).map S = ws := by
 rw [List.map_map]
 conv => rhs; rw [← List.map_id ws]
 exact List.map_congr_left fun z _ => fL z
theorem bnd {lo hi n : Int} (g : lo ≤ hi ∧ lo.natAbs < 10 ^ 60 ∧ hi.natAbs < 10 ^ 60) (h : (decide (lo ≤ n) && decide (n ≤ hi)) = true) : n.natAbs < 10 ^ 60 := by
 simp only [Bool.and_eq_true, decide_eq_true_iff] at h
 omega
theorem R7 {ku : KU} {a : AV} (g : ku.Good) (h : fit ku a = true) : ans ku (Jw ku a) = some a := by
 cases ku <;> cases a <;> first | (cases h; done) | skip
 case yn.b x =>
   cases x
   · show (YN.lookup (S (cd "no"))).map AV.b = some (.b false)
     rw [fL]; decide +kernel
   · show (YN.lookup (S (cd "yes"))).map AV.b = some (.b true)
     rw [fL]; decide +kernel
 case wh.i lo hi n => show (fM (cj n) 60).map AV.i = _; rw [NK (bnd g h)]; rfl
 case mo.i lo hi n => show (mL (cU n)).map AV.i = _; rw [Wf (bnd g h)]; rfl
 case pk.s ws z => show some (AV.s (S (cd z))) = _; rw [fL]
 case nm.t m ws =>
   have := (O7 g h).2.2.2.1
   show some (AV.t ((N.Mg (Jw (.nm m) (.t ws))).map S)) = _
   rw [this, Z3]
theorem qG {ku : KU} {a : AV} (g : ku.Good) (h : fit ku a = true) : qZ (Jw ku a) = Jw ku a ∧ Jw ku a ≠ [] ∧ bN 200 (S (Jw ku a)) := by
 cases ku <;> cases a <;> first | (cases h; done) | skip
 case yn.b x =>
   cases x
   · show qZ (cd "no") = cd "no" ∧ cd "no" ≠ [] ∧ bN 200 (S (cd "no"))
     rw [fL]
     exact ⟨by symm, by symm, ⟨by symm, by symm⟩⟩
   · show qZ (cd "yes") = cd "yes" ∧ cd "yes" ≠ [] ∧ bN 200 (S (cd "yes"))
     rw [fL]
     exact ⟨by symm, by symm, ⟨by symm, by symm⟩⟩
 case wh.i lo hi n => exact ⟨Qz n, Ys n, (Yt (bnd g h)).mono (by decide)⟩
 case mo.i lo hi n =>
   refine ⟨tO J6.1 J6.2, fun e => ?_, (Gp (bnd g h)).mono (by decide)⟩
   have := YH n
   have e' : cU n = [] := e
   rw [e'] at this; exact absurd this (by decide)
 case pk.s ws z =>
   have hz : z ∈ ws := of_decide_eq_true h
   have hw := g.1.wd z hz
   have := Wx hw
   refine ⟨JZ fun c hc e => this.1 (by rw [← e]; exact hc), this.2.1, ?_⟩
   show bN 200 (S (cd z))
   rw [fL]
   exact ⟨by have := hw.1; omega, fun c hc => by have := hw.2.2 c hc; omega⟩
 case nm.t m ws =>
   have := O7 g h
   exact ⟨this.1, this.2.1, this.2.2.1⟩
end fX
set_option maxHeartbeats 4000000
namespace fX
open PySem L2
seal PE PT PW PA PS jG PG tE PI PO iV ir uT bL iW qU sy PC wD
local macro_rules | `(tactic| walk_at "rd1") => `(tactic| first
 | (refine And.intro rfl ?_)
 | (refine And.intro (by assumption) ?_)
 | (refine And.intro (fun _ e => e) ?_)
 | (refine And.intro (au.str _) ?_) | (refine And.intro (au.int _) ?_) | (refine And.intro (au.bl _) ?_) | (refine And.intro au.non ?_)
 | (refine cQ ?_) | (refine aM ?_)
 | (apply Exists.intro))
local macro_rules | `(tactic| walk_at "rd") => `(tactic| repeat (walk_at "rd1"))
abbrev fP (n : Nat) (pw : Addr) : List (Str × V) := [("low", .int 0), ("high", .int ((n : Int) - 1)), ("words", .ref pw)]
def cls (A : dW) : KU → Addr
 | .yn => A.kE
 | .wh _ _ => A.jx
 | .mo _ _ => A.ju
 | .pk _ => A.jX
 | .nm _ => A.km
def fl (H : Hp) (fs : List (Str × V)) : KU → Prop
 | .pk ws => ∃ pw, fs = fP ws.length pw ∧ H pw = some (.lst (ws.map V.str))
 | .yn => fs = jF 0 1
 | .wh lo hi => fs = jF lo hi
 | .mo lo hi => fs = jF lo hi
 | .nm m => fs = jF 0 (m : Nat)
def st (A : dW) (ku : KU) (H : Hp) (p : Addr) : Prop := ∃ dx fs, H p = some (.ins (cls A ku) dx fs) ∧ fl H fs ku
theorem fl.same {H H' : Hp} {fs : List (Str × V)} {ku : KU} (e : aB H H') (h : fl H fs ku) : fl H' fs ku := by
 cases ku with
 | pk ws => obtain ⟨pw, h1, h2⟩ := h; exact ⟨pw, h1, e _ _ h2⟩
 | yn => exact h
 | wh lo hi => exact h
 | mo lo hi => exact h
 | nm m => exact h
theorem st.same {A : dW} {ku : KU} {H H' : Hp} {p : Addr} (e : aB H H') (h : st A ku H p) : st A ku H' p := by
 obtain ⟨dx, fs, h1, h2⟩ := h
 exact ⟨dx, fs, e _ _ h1, h2.same e⟩
def ms : List Str := ["fits", "answer_of", "read", "shown", "rank", "sample"]
theorem apx {f a b c : Str} {v w u : V} (h1 : (f == a) = false) (h2 : (f == b) = false) (h3 : (f == c) = false) : ([(a, v), (b, w), (c, u)] : List (Str × V)).lookup f = none := by
 rw [List.lookup_cons, h1, List.lookup_cons, h2, List.lookup_cons, h3]; rfl
theorem R8 {f : Str} {lo hi : Int} (h1 : (f == ("low" : Str)) = false) (h2 : (f == ("high" : Str)) = false) : (jF lo hi).lookup f = none := lk0 h1 h2
theorem Z4 {f : Str} {n : Nat} {pw : Addr} (h1 : (f == ("low" : Str)) = false) (h2 : (f == ("high" : Str)) = false) (h3 : (f == ("words" : Str)) = false) : (fP n pw).lookup f = none := apx h1 h2 h3
theorem Fg {lo hi : Int} {m : Str} (hm : m ∈ ms) : (jF lo hi).lookup m = none := by
 simp only [ms, List.mem_cons, List.not_mem_nil, or_false] at hm
 rcases hm with e | e | e | e | e | e
 · subst e; exact R8 (by symm) (by symm)
 · subst e; exact R8 (by symm) (by symm)
 · subst e; exact R8 (by symm) (by symm)
 · subst e; exact R8 (by symm) (by symm)
 · subst e; exact R8 (by symm) (by symm)
 · subst e; exact R8 (by symm) (by symm)
theorem fl.no {H : Hp} {fs : List (Str × V)} {ku : KU} {m : Str} (h : fl H fs ku) (hm : m ∈ ms) : fs.lookup m = none := by
 cases ku with
 | pk ws =>
   obtain ⟨pw, rfl, _⟩ := h
   simp only [ms, List.mem_cons, List.not_mem_nil, or_false] at hm
   rcases hm with e | e | e | e | e | e
   · subst e; exact Z4 (by symm) (by symm) (by symm)
   · subst e; exact Z4 (by symm) (by symm) (by symm)
   · subst e; exact Z4 (by symm) (by symm) (by symm)
   · subst e; exact Z4 (by symm) (by symm) (by symm)
   · subst e; exact Z4 (by symm) (by symm) (by symm)
   · subst e; exact Z4 (by symm) (by symm) (by symm)
 | yn => have h : fs = jF 0 1 := h; rw [h]; exact Fg hm
 | wh lo hi => have h : fs = jF lo hi := h; rw [h]; exact Fg hm
 | mo lo hi => have h : fs = jF lo hi := h; rw [h]; exact Fg hm
 | nm m => have h : fs = jF 0 (m : Nat) := h; rw [h]; exact Fg hm
theorem fl.low {H : Hp} {fs : List (Str × V)} {ku : KU} (h : fl H fs ku) : fs.lookup ("low" : Str) = some (.int ku.low) := by
 cases ku with
 | pk ws => obtain ⟨pw, rfl, _⟩ := h; exact lk1
 | yn => have h : fs = jF 0 1 := h; rw [h]; exact lk1
 | wh lo hi => have h : fs = jF lo hi := h; rw [h]; exact lk1
 | mo lo hi => have h : fs = jF lo hi := h; rw [h]; exact lk1
 | nm m => have h : fs = jF 0 (m : Nat) := h; rw [h]; exact lk1
theorem fl.high {H : Hp} {fs : List (Str × V)} {ku : KU} (h : fl H fs ku) : fs.lookup ("high" : Str) = some (.int ku.high) := by
 cases ku with
 | pk ws => obtain ⟨pw, rfl, _⟩ := h; exact lk2 T9
 | yn => have h : fs = jF 0 1 := h; rw [h]; exact lk2 T9
 | wh lo hi => have h : fs = jF lo hi := h; rw [h]; exact lk2 T9
 | mo lo hi => have h : fs = jF lo hi := h; rw [h]; exact lk2 T9
 | nm m => have h : fs = jF 0 (m : Nat) := h; rw [h]; exact lk2 T9
def AR (K : W.Frag) (H : Hp) : AV → V → Prop
 | .b x, v => v = .bl x
 | .i n, v => v = .int n
 | .s z, v => v = .str z
 | .t ws, v => ∃ p, v = .ref p ∧ lG K H p (ws.map V.str)
theorem AR.same {K : W.Frag} {H H' : Hp} {a : AV} {v : V} (e : aB H H') (h : AR K H a v) : AR K H' a v := by
 cases a with
 | b x => exact h
 | i x => exact h
 | s x => exact h
 | t ws => obtain ⟨p, h1, h2⟩ := h; exact ⟨p, h1, e.aa0 h2⟩
def Q8 (K : W.Frag) (A : dW) (ku : KU) : Sp := fun vs H Q _ => ∃ p x a, vs = [.ref p, x] ∧ st A ku H p ∧ AR K H a x ∧ fit ku a = true ∧ ∀ H', aB H H' → Q (.str (S (Jw ku a))) H'
theorem aF.imp {P : Program} {w : World} {K : W.Frag} {mg : Str → Option Value} {base : Heap} {CX : Ez} {k : Nat} {f : Addr} {fd : FuncData} {ps : List Str} {sp Zw : Sp} (F : aF P w K mg base CX k f fd ps sp) (h : ∀ vs H Q E, Zw vs H Q E → sp vs H Q E) : aF P w K mg base CX k f fd ps Zw :=
 ⟨fun vs H Q E q => F.len vs H Q E (h _ _ _ _ q), fun A outer s H args us vs Q E hr he hb hv hs => F.run A outer s H args us vs Q E hr he hb hv (h _ _ _ _ hs)⟩
theorem qd.imp {P : Program} {w : World} {K : W.Frag} {mg : Str → Option Value} {base : Heap} {CX : Ez} {k : Nat} {f : Addr} {fd : FuncData} {ps : List Str} {sp Zw : Sp} (F : qd P w K mg base CX k f fd ps sp) (h : ∀ vs H Q E, Zw vs H Q E → sp vs H Q E) : qd P w K mg base CX k f fd ps Zw :=
 ⟨fun vs H Q E q => F.len vs H Q E (h _ _ _ _ q), fun A outer s H args us vs Q E hr he hn hb hv hs => F.run A outer s H args us vs Q E hr he hn hb hv (h _ _ _ _ hs)⟩
theorem Ue (ws : List Str) : (ws.map V.str).all gw = true := by rw [List.all_map, List.all_eq_true]; intro _ _; rfl
theorem uF (z : Str) (ws : List Str) : inV (.str z) (ws.map V.str) = decide (z ∈ ws) := by
 unfold inV
 rw [List.any_map, Bool.eq_iff_iff, List.any_eq_true, decide_eq_true_iff]
 constructor
 · rintro ⟨y, hy, e⟩
   have : y = z := eq_of_beq e
   rw [← this]; exact hy
 · intro h; exact ⟨z, h, by show (z == z) = true; exact beq_self_eq_true z⟩
theorem Ug (v w u : V) : ji "words" u [(("low" : Str), v), (("high" : Str), w)] = [(("low" : Str), v), (("high" : Str), w), (("words" : Str), u)] := by
 unfold ji
 rw [if_neg (by symm)]
 unfold ji
 rw [if_neg (by symm)]
 rfl
section
variable {P : Program} {w : World} {K : W.Frag} {mg : Str → Option Value} {base : Heap} {A : dW}
end
end fX
namespace fX
open PySem L2
seal PE PT PW PA PS jG PG tE PI PO iV ir uT bL iW qU sy PC wD
local macro_rules | `(tactic| walk_at "rd1") => `(tactic| first
 | (refine And.intro rfl ?_)
 | (refine And.intro (by assumption) ?_)
 | (refine And.intro (fun _ e => e) ?_)
 | (refine And.intro (au.str _) ?_) | (refine And.intro (au.int _) ?_) | (refine And.intro (au.bl _) ?_) | (refine And.intro au.non ?_)
 | (refine cQ ?_) | (refine aM ?_)
 | (apply Exists.intro))
local macro_rules | `(tactic| walk_at "rd") => `(tactic| repeat (walk_at "rd1"))
structure SM (P : Program) (w : World) (K : W.Frag) (mg : Str → Option Value) (base : Heap) (A : dW) (ku : KU) where
 cl : uU K (cls A ku)
 n1 : aD K (cls A ku) "low"
 n2 : aD K (cls A ku) "high"
 Js : ym P w K mg base cD 4 (cls A ku) "shown"
 es : Js.sp = Q8 K A ku
 ds : Js.nu = []
theorem Z5 {a : AV} {lo hi : Int} (h : fit (.wh lo hi) a = true) : ∃ n, a = .i n := by
 cases a <;> first | exact ⟨_, rfl⟩ | (cases h; done)
section
variable {P : Program} {w : World} {K : W.Frag} {mg : Str → Option Value} {base : Heap} {A : dW}
theorem Uh (T : Txt K mg A) (lo hi : Int) (g : (KU.wh lo hi).Good) : aF P w K mg base cD 1 A.iH A.iI ["self", "answer"] (Q8 K A (.wh lo hi)) := by
 refine (Ua T).imp fun vs H Q E h => ?_
 obtain ⟨p, x, a, rfl, hp, ha, hf, q⟩ := h
 obtain ⟨n, rfl⟩ := Z5 hf
 cases ha
 exact ⟨p, n, rfl, bnd g hf, q⟩
theorem Ui (T : Txt K mg A) (lo hi : Int) (g : (KU.mo lo hi).Good) : aF P w K mg base cD 2 A.iJ A.iK ["self", "answer"] (Q8 K A (.mo lo hi)) := by
 refine (Uc T).imp fun vs H Q E h => ?_
 obtain ⟨p, x, a, rfl, hp, ha, hf, q⟩ := h
 obtain ⟨n, rfl⟩ := Z5 (lo := lo) (hi := hi) (show fit (.wh lo hi) a = true by cases a <;> exact hf)
 cases ha
 exact ⟨p, n, rfl, bnd g hf, q⟩
def smW (T : Txt K mg A) (lo hi : Int) (g : (KU.wh lo hi).Good) : SM P w K mg base A (.wh lo hi) := ⟨T.ux, T.zy, T.vV, ⟨_, _, _, _, [], [], T.ux, T.Hm, (Uh T lo hi g).mono (by decide), T.Ds, .nil⟩, rfl, rfl⟩
def smM (T : Txt K mg A) (lo hi : Int) (g : (KU.mo lo hi).Good) : SM P w K mg base A (.mo lo hi) := ⟨T.uy, T.zz, T.vW, ⟨_, _, _, _, [], [], T.uy, T.Hn, (Ui T lo hi g).mono (by decide), T.Du, .nil⟩, rfl, rfl⟩
end
end fX
set_option maxHeartbeats 4000000
namespace fX
open PySem L2
seal PE PT PW PA PS jG PG tE PI PO iV ir uT bL iW qU sy PC wD
local macro_rules | `(tactic| walk_at "rd1") => `(tactic| first
 | (refine And.intro rfl ?_)
 | (refine And.intro (by assumption) ?_)
 | (refine And.intro (fun _ e => e) ?_)
 | (refine And.intro (au.str _) ?_) | (refine And.intro (au.int _) ?_) | (refine And.intro (au.bl _) ?_) | (refine And.intro au.non ?_)
 | (refine cQ ?_) | (refine aM ?_)
 | (apply Exists.intro))
local macro_rules | `(tactic| walk_at "rd") => `(tactic| repeat (walk_at "rd1"))
def Ik : KU → List Nat
 | .yn => cd ‹"yesno"›
 | .wh lo hi => cd ‹"whole "› ++ (cj lo ++ [32] ++ cj hi)
 | .mo lo hi => cd ‹"money "› ++ (cU lo ++ [32] ++ cU hi)
 | .pk ws => cd ‹"pick "› ++ aR [32] (ws.map cd)
 | .nm m => cd ‹"names "› ++ cj m
theorem fl.noT {H : Hp} {fs : List (Str × V)} {ku : KU} (h : fl H fs ku) : fs.lookup ‹"told"› = none ∧ fs.lookup ‹"bounds"› = none := by
 cases ku with
 | pk ws => obtain ⟨pw, rfl, _⟩ := h; exact ⟨Z4 (by symm) (by symm) (by symm), Z4 (by symm) (by symm) (by symm)⟩
 | yn => have h : fs = jF 0 1 := h; rw [h]; exact ⟨R8 (by symm) (by symm), R8 (by symm) (by symm)⟩
 | wh lo hi => have h : fs = jF lo hi := h; rw [h]; exact ⟨R8 (by symm) (by symm), R8 (by symm) (by symm)⟩
 | mo lo hi => have h : fs = jF lo hi := h; rw [h]; exact ⟨R8 (by symm) (by symm), R8 (by symm) (by symm)⟩
 | nm m => have h : fs = jF 0 (m : Nat) := h; rw [h]; exact ⟨R8 (by symm) (by symm), R8 (by symm) (by symm)⟩
def sV (A : dW) (ku : KU) : Sp := fun vs H Q _ => ∃ p, vs = [.ref p] ∧ st A ku H p ∧ ∀ H', aB H H' → Q (.str (S (Ik ku))) H'
def Z6 (ku : KU) : List Nat := Jw ku (.i ku.low) ++ [32] ++ Jw ku (.i ku.high)
def abl (A : dW) (ku : KU) : Sp := fun vs H Q _ => ∃ p, vs = [.ref p] ∧ st A ku H p ∧ ∀ H', aB H H' → Q (.str (S (Z6 ku))) H'
theorem fsz {n m : Nat} {x y : Str} (h : bN n x) (k : bN m y) (l : n + m ≤ 1000 := by decide) : x.length + y.length ≤ sizeLine := zN (m := 1000) (by have := h.len; have := k.len; omega)
section
variable {P : Program} {w : World} {K : W.Frag} {mg : Str → Option Value} {base : Heap} {A : dW}
theorem Wz (T : Txt K mg A) {ku : KU} (g : ku.Good) (hw : (∃ lo hi, ku = .wh lo hi) ∨ ∃ lo hi, ku = .mo lo hi) (M : SM P w K mg base A ku) : aF P w K mg base cD 5 A.dJ A.fu ["self"] (abl A ku) := by
 refine T.Bl.ok Ad (fun vs H Q E h => ?_) (fun cdv A0 outer s H vs Q E hr h => ?_)
 · obtain ⟨p, rfl, _⟩ := h
   rfl
 obtain ⟨p, rfl, hp, q⟩ := h
 refine ⟨_, (zF (zG (zL zH (zL zH (yo (CX := cD) (k := 4) ‹hr› zM (pv 0) (zA (zZ (pv 0) rfl) zB)) zJ) (yo (CX := cD) (k := 4) ‹hr› zM (pv 0) (zA (zZ (pv 0) rfl) zB))))), ?_⟩
 have fl' : fit ku (.i ku.low) = true ∧ fit ku (.i ku.high) = true := by
   rcases hw with ⟨lo, hi, rfl⟩ | ⟨lo, hi, rfl⟩
   · have g : lo ≤ hi ∧ _ := g
     exact ⟨by show (decide (lo ≤ lo) && decide (lo ≤ hi)) = true; simp [g.1], by show (decide (lo ≤ hi) && decide (hi ≤ hi)) = true; simp [g.1]⟩
   · have g : lo ≤ hi ∧ _ := g
     exact ⟨by show (decide (lo ≤ lo) && decide (lo ≤ hi)) = true; simp [g.1], by show (decide (lo ≤ hi) && decide (hi ≤ hi)) = true; simp [g.1]⟩
 obtain ⟨dx, fs, hi, hf⟩ := id hp
 have f1 := (qG g fl'.1).2.2
 have f2 := (qG g fl'.2).2.2
 have WD : bN 1 ‹" "› := ⟨by symm, by symm⟩
 refine ⟨_, rfl, p, cls A ku, dx, fs, M.Js, rfl, hi, hf.no (by symm), _, rfl, p, cls A ku, dx, fs, _, rfl, hi, M.cl, M.n1, hf.low, ?_⟩
 rw [M.es, M.ds]
 refine ⟨p, _, .i ku.low, rfl, hp, rfl, fl'.1, fun H1 s1 => ?_⟩
 refine ⟨_, _, rfl, rfl, fsz f1 WD, ?_⟩
 refine ⟨_, rfl, p, cls A ku, dx, fs, M.Js, rfl, s1 _ _ hi, hf.no (by symm), _, rfl, p, cls A ku, dx, fs, _, rfl, s1 _ _ hi, M.cl, M.n2, hf.high, ?_⟩
 rw [M.es, M.ds]
 refine ⟨p, _, .i ku.high, rfl, hp.same s1, rfl, fl'.2, fun H2 s2 => ?_⟩
 refine ⟨_, _, rfl, rfl, fsz (f1.app WD) f2, ?_⟩
 have e : S (Jw ku (.i ku.low)) ++ ‹" "› ++ S (Jw ku (.i ku.high)) = S (Z6 ku) := by
   rw [show ‹" "› = S [32] by symm, xN, xN]; rfl
 rw [e]
 exact q _ (s1.trans s2)
theorem Fi {ku : KU} (g : ku.Good) (hw : (∃ lo hi, ku = .wh lo hi) ∨ ∃ lo hi, ku = .mo lo hi) : bN 401 (S (Z6 ku)) := by
 have fl' : fit ku (.i ku.low) = true ∧ fit ku (.i ku.high) = true := by
   rcases hw with ⟨lo, hi, rfl⟩ | ⟨lo, hi, rfl⟩
   · have g : lo ≤ hi ∧ _ := g
     exact ⟨by show (decide (lo ≤ lo) && decide (lo ≤ hi)) = true; simp [g.1], by show (decide (lo ≤ hi) && decide (hi ≤ hi)) = true; simp [g.1]⟩
   · have g : lo ≤ hi ∧ _ := g
     exact ⟨by show (decide (lo ≤ lo) && decide (lo ≤ hi)) = true; simp [g.1], by show (decide (lo ≤ hi) && decide (hi ≤ hi)) = true; simp [g.1]⟩
 have f1 := (qG g fl'.1).2.2
 have f2 := (qG g fl'.2).2.2
 have WD : bN 1 ‹" "› := ⟨by symm, by symm⟩
 have e : S (Jw ku (.i ku.low)) ++ ‹" "› ++ S (Jw ku (.i ku.high)) = S (Z6 ku) := by
   rw [show ‹" "› = S [32] by symm, xN, xN]; rfl
 rw [← e]
 exact (f1.app WD).app f2
theorem WK (T : Txt K mg A) : aF P w K mg base cD 1 A.nJ A.nM ["self"] (sV A .yn) := by
 refine T.Gv.ok Eg (fun vs H Q E h => ?_) (fun cdv A0 outer s H vs Q E hr h => ?_)
 · obtain ⟨p, rfl, _⟩ := h
   rfl
 obtain ⟨p, rfl, hp, q⟩ := h
 refine ⟨_, (zF (zG zJ)), ?_⟩
 have q := q _ (aB.refl _)
 rw [show Ik .yn = cd ‹"yesno"› from rfl, fL] at q
 exact q
theorem WL (T : Txt K mg A) {lo hi : Int} (g : (KU.wh lo hi).Good) : aF P w K mg base cD 6 A.nO A.nP ["self"] (sV A (.wh lo hi)) := by
 refine T.Gx.ok Eh (fun vs H Q E h => ?_) (fun cdv A0 outer s H vs Q E hr h => ?_)
 · obtain ⟨p, rfl, _⟩ := h
   rfl
 obtain ⟨p, rfl, hp, q⟩ := h
 obtain ⟨kbd, hk⟩ : ∃ k : Nat, k = 5 := ⟨_, rfl⟩
 refine ⟨_, (zF (zG (zL zH zJ (yE (CX := cD) (k := kbd) ‹hr› zM (pv 0))))), ?_⟩
 subst hk
 obtain ⟨dx, fs, hi', hf⟩ := id hp
 refine ⟨_, rfl, p, A.jx, dx, fs, ⟨A.dJ, A.fu, ["self"], abl A (.wh lo hi), [], [], T.ux, T.Eb, Wz T g (.inl ⟨lo, hi, rfl⟩) (smW T lo hi g), T.ql, .nil⟩, rfl, hi', hf.noT.2, p, rfl, hp, fun H1 s1 => ?_⟩
 have f0 : bN 6 ‹"whole "› := ⟨by symm, by symm⟩
 refine ⟨_, _, rfl, rfl, fsz f0 (Fi g (.inl ⟨lo, hi, rfl⟩)), ?_⟩
 have e : ‹"whole "› ++ S (Z6 (.wh lo hi)) = S (Ik (.wh lo hi)) := by
   rw [show ‹"whole "› = S (cd ‹"whole "›) from (fL _).symm, xN]; rfl
 rw [e]
 exact q _ s1
theorem WM (T : Txt K mg A) {lo hi : Int} (g : (KU.mo lo hi).Good) : aF P w K mg base cD 6 A.nQ A.nR ["self"] (sV A (.mo lo hi)) := by
 refine T.Gz.ok Ei (fun vs H Q E h => ?_) (fun cdv A0 outer s H vs Q E hr h => ?_)
 · obtain ⟨p, rfl, _⟩ := h
   rfl
 obtain ⟨p, rfl, hp, q⟩ := h
 obtain ⟨kbd, hk⟩ : ∃ k : Nat, k = 5 := ⟨_, rfl⟩
 refine ⟨_, (zF (zG (zL zH zJ (yE (CX := cD) (k := kbd) ‹hr› zM (pv 0))))), ?_⟩
 subst hk
 obtain ⟨dx, fs, hi', hf⟩ := id hp
 refine ⟨_, rfl, p, A.ju, dx, fs, ⟨A.dJ, A.fu, ["self"], abl A (.mo lo hi), [], [], T.uy, T.Ec, Wz T g (.inr ⟨lo, hi, rfl⟩) (smM T lo hi g), T.ql, .nil⟩, rfl, hi', hf.noT.2, p, rfl, hp, fun H1 s1 => ?_⟩
 have f0 : bN 6 ‹"money "› := ⟨by symm, by symm⟩
 refine ⟨_, _, rfl, rfl, fsz f0 (Fi g (.inr ⟨lo, hi, rfl⟩)), ?_⟩
 have e : ‹"money "› ++ S (Z6 (.mo lo hi)) = S (Ik (.mo lo hi)) := by
   rw [show ‹"money "› = S (cd ‹"money "›) from (fL _).symm, xN]; rfl
 rw [e]
 exact q _ s1
theorem WN (T : Txt K mg A) {ws : List Str} (g : (KU.pk ws).Good) : aF P w K mg base cD 1 A.pH A.pI ["self"] (sV A (.pk ws)) := by
 refine T.Iu.ok Ht (fun vs H Q E h => ?_) (fun cdv A0 outer s H vs Q E hr h => ?_)
 · obtain ⟨p, rfl, _⟩ := h
   rfl
 obtain ⟨p, rfl, hp, q⟩ := h
 refine ⟨_, (zF (zG (zL zH zJ (tL PySem.F.plainAttrs_str PySem.F.slot_str_join PySem.F.type_str_join KJ zJ (zA (zZ (pv 0) rfl) zB))))), ?_⟩
 obtain ⟨dx, fs, hi', pw, rfl, hpw⟩ := hp
 have g6 : ws.length ≤ 6 := g.2.2
 have hs := HD (n := 12) (l := ws) fun z hz => (g.1.wd z hz).1
 have hsz : (ws.map (·.length)).sum + ws.length * ‹" "›.length ≤ 16777216 := by
   rw [show ‹" "›.length = 1 by symm]; omega
 refine ⟨rfl, _, rfl, p, _, dx, _, _, rfl, hi', T.Ff, T.vX, rfl, _, pw, ws, rfl, rfl, .inl (bz.of hpw), hsz, ?_⟩
 rw [pZ, show cd ‹" "› = [32] by symm]
 have hj := m7 [32] (ws.map cd)
 have hj2 : (aR [32] (ws.map cd)).length ≤ 100 := by
   have e1 : ((ws.map cd).map List.length).sum = (ws.map (·.length)).sum := by
     rw [List.map_map]; exact congrArg List.sum (List.map_congr_left fun z _ => (yD z).symm)
   rw [e1, List.length_map] at hj
   have : [32].length = 1 := rfl
   rw [this] at hj
   omega
 refine ⟨_, _, rfl, rfl, zN (m := 1000) (by rw [zW, show ‹"pick "›.length = 5 by symm]; omega), ?_⟩
 have e : ‹"pick "› ++ S (aR [32] (ws.map cd)) = S (Ik (.pk ws)) := by
   rw [show ‹"pick "› = S (cd ‹"pick "›) from (fL _).symm, xN]; rfl
 rw [e]
 exact q _ (aB.refl _)
theorem WQ (T : Txt K mg A) {m : Nat} (g : (KU.nm m).Good) : aF P w K mg base cD 1 A.nT A.nU ["self"] (sV A (.nm m)) := by
 refine T.GD.ok Ej (fun vs H Q E h => ?_) (fun cdv A0 outer s H vs Q E hr h => ?_)
 · obtain ⟨p, rfl, _⟩ := h
   rfl
 obtain ⟨p, rfl, hp, q⟩ := h
 refine ⟨_, (zF (zG (zL zH zJ (yL yT (by rfl) T.oF Bt.str (zA (zZ (pv 0) rfl) zB))))), ?_⟩
 obtain ⟨dx, fs, hi', hf⟩ := hp
 have g6 : m ≤ 6 := g
 have p60 : (7 : Nat) < 10 ^ 60 := by symm
 refine ⟨_, rfl, p, _, dx, fs, _, rfl, hi', T.Ho, T.vY, fl.high (ku := .nm m) hf, (m : Int), rfl, RP (Nat.lt_trans (show ((m : Nat) : Int).natAbs < 10 ^ 60 by omega) (by symm)), ?_⟩
 rw [str_is]
 have hl := qG (ku := .wh 0 6) (a := .i m) ⟨by decide, by symm, by symm⟩ (by show (decide ((0 : Int) ≤ m) && decide ((m : Int) ≤ 6)) = true; simp; omega)
 have f0 : bN 6 ‹"names "› := ⟨by symm, by symm⟩
 have fn : bN 200 (S (cj (m : Int))) := hl.2.2
 refine ⟨_, _, rfl, rfl, fsz f0 fn, ?_⟩
 have e : ‹"names "› ++ S (cj (m : Int)) = S (Ik (.nm m)) := by
   rw [show ‹"names "› = S (cd ‹"names "›) from (fL _).symm, xN]; rfl
 rw [e]
 exact q _ (aB.refl _)
def JT (T : Txt K mg A) : (ku : KU) → ku.Good → ym P w K mg base cD 6 (cls A ku) "told"
 | .yn, _ => ⟨_, _, _, sV A .yn, [], [], T.OJ, T.Jl, (WK T).mono (by decide), T.Gw, .nil⟩
 | .wh lo hi, g => ⟨_, _, _, sV A (.wh lo hi), [], [], T.ux, T.Jo, WL T g, T.Gy, .nil⟩
 | .mo lo hi, g => ⟨_, _, _, sV A (.mo lo hi), [], [], T.uy, T.Jp, WM T g, T.GC, .nil⟩
 | .pk ws, g => ⟨_, _, _, sV A (.pk ws), [], [], T.Ff, T.LC, (WN T g).mono (by decide), T.Iv, .nil⟩
 | .nm m, g => ⟨_, _, _, sV A (.nm m), [], [], T.Ho, T.Jq, (WQ T g).mono (by decide), T.GF, .nil⟩
theorem aeq (T : Txt K mg A) (ku : KU) (g : ku.Good) : (JT (P := P) (w := w) (base := base) T ku g).sp = sV A ku ∧ (JT (P := P) (w := w) (base := base) T ku g).nu = [] := by
 cases ku <;> exact ⟨rfl, rfl⟩
end
end fX
set_option maxHeartbeats 4000000
namespace fX.N
open PySem L2
seal PE PT PW PA PS jG PG tE PI PO iV ir uT bL iW qU sy PC wD
local macro_rules | `(tactic| walk_at "rd1") => `(tactic| first
 | (refine And.intro rfl ?_)
 | (refine And.intro (by assumption) ?_)
 | (refine And.intro (fun _ e => e) ?_)
 | (refine And.intro (au.str _) ?_) | (refine And.intro (au.int _) ?_) | (refine And.intro (au.bl _) ?_) | (refine And.intro au.non ?_)
 | (refine cQ ?_) | (refine aM ?_)
 | (apply Exists.intro))
local macro_rules | `(tactic| walk_at "rd") => `(tactic| repeat (walk_at "rd1"))
def Uj (K : W.Frag) : Sp := fun vs H Q _ => ∃ (p : Addr) (xs : List V), vs = [.ref p] ∧ bz K H p xs ∧ xs.length ≤ 1000 ∧ (∀ x ∈ xs, Ok K H x) ∧ ∀ H', aB H H' → Q (.bl (iU xs)) H'
section
variable {P : Program} {w : World} {K : W.Frag} {mg : Str → Option Value} {base : Heap} {A : dW}
theorem Q9 (T : Txt K mg A) : aF P w K mg base cD 2 A.fO A.jb ["words"] (Uj K) := by
 have qH := xq (P := P) (w := w) (base := base) T
 refine T.wM.ok vG (fun vs H Q E h => ?_) (fun cdv A0 outer s H vs Q E hr h => ?_)
 · obtain ⟨x, xs, rfl, _⟩ := h
   rfl
 obtain ⟨p, xs, rfl, hq, hl, hx, q⟩ := h
 refine ⟨_, (zF (zG (tD (zR (yd rfl) (by rfl) T.RW Bt.all (zA (xU (yQ (x := "word") (M := ["words"]) rfl (by rfl)) rfl (oU (pv 0)) (fun _ _ _ _ => (zI qH ‹hr› rfl T.vh T.vg T.vf .nil zM (zA (pv 0) zB)))) zB)) (wA (xF yR (zR Io (by rfl) T.jy PySem.boot_len (zA (yL (K4 rfl) (by rfl) T.aeh Bt.set (zA (pv 0) zB)) zB)) (zR yI (by rfl) T.jy PySem.boot_len (zA (pv 0) zB)) (zS _)))))), ?_⟩
 refine ⟨_, rfl, p, rfl, ⟨_, hq⟩, ?_⟩
 refine xR (xs := xs) (zN (m := 1000) hl) (fun i ys H' => aB H H' ∧ ys = (xs.take i).map fun x => V.bl (nameV x)) ⟨aB.refl _, rfl⟩ (fun i ys H' hw => hw.1.seq hq) (fun i x ys H' hi hl' hw => ?_) (fun ys H' hl' hw p2 hp2 => ?_)
 · obtain ⟨sH, rfl⟩ := hw
   refine ⟨_, rfl, _, rfl, (hx x (List.mem_of_getElem? hi)).same sH, fun H2 s2 => ⟨sH.trans s2, ?_⟩⟩
   rw [List.take_succ, hi, List.map_append]; rfl
 obtain ⟨sH, rfl⟩ := hw
 rw [List.take_length]
 have sB := sH.trans (zK hp2 (.lst (xs.map fun x => V.bl (nameV x))))
 refine ⟨p2, xs.map nameV, rfl, bz.of (by rw [zD, List.map_map]; rfl), _, rfl, ?_⟩
 rw [List.all_map]
 cases ha : xs.all nameV with
 | false =>
   refine V0 (show xs.all (id ∘ nameV) = false from ha) ?_
   have e : iU xs = false := by unfold iU; rw [ha]; rfl
   rw [e] at q
   exact q _ sB
 | true =>
   refine aaZ (show xs.all (id ∘ nameV) = true from ha) ?_
   have exs := qW ha
   have hlw : (strsOf xs).length = xs.length := by have := congrArg List.length exs; rw [List.length_map] at this; exact this.symm
   refine ⟨_, rfl, p, strsOf xs, rfl, (by rw [← exs]; exact sB.seq hq), by omega, fun p3 hp3 => ?_⟩
   refine ⟨p3, _, _, rfl, zD, ?_⟩
   have sC := sB.trans (zK hp3 (SetT P w p3 (fun k => decide (k ∈ gR (strsOf xs))) (gR (strsOf xs)).length))
   refine ⟨_, rfl, p, xs, rfl, .inl (sC.seq hq), rfl, ?_⟩
   have e : iU xs = decide (V.int ((gR (strsOf xs)).length : Nat) = V.int (xs.length : Nat)) := by
     unfold iU
     rw [ha, Bool.true_and, Bool.eq_iff_iff, decide_eq_true_iff, decide_eq_true_iff]
     constructor
     · intro z; rw [z]
     · intro z; have : ((gR (strsOf xs)).length : Int) = xs.length := V.int.inj z; omega
   have q := q _ sC
   rw [e] at q
   exact q
end
end fX.N
namespace fX
open PySem L2
seal PE PT PW PA PS jG PG tE PI PO iV ir uT bL iW qU sy PC wD
local macro_rules | `(tactic| walk_at "rd1") => `(tactic| first
 | (refine And.intro rfl ?_)
 | (refine And.intro (by assumption) ?_)
 | (refine And.intro (fun _ e => e) ?_)
 | (refine And.intro (au.str _) ?_) | (refine And.intro (au.int _) ?_) | (refine And.intro (au.bl _) ?_) | (refine And.intro au.non ?_)
 | (refine cQ ?_) | (refine aM ?_)
 | (apply Exists.intro))
local macro_rules | `(tactic| walk_at "rd") => `(tactic| repeat (walk_at "rd1"))
def Y5 (A : dW) : Sp := fun vs H Q _ => ∃ p dx, vs = [.ref p] ∧ H p = some (.ins A.kE dx []) ∧ Q .non (upd H p (.ins A.kE dx (jF 0 1)))
def Y6 (A : dW) : Sp := fun vs H Q _ => ∃ (p dx pl : Addr) (ws : List Str), vs = [.ref p, .ref pl] ∧ H p = some (.ins A.jX dx []) ∧ H pl = some (.lst (ws.map V.str)) ∧ ∀ pw H', (∀ b o, b ≠ p → H b = some o → H' b = some o) → H' p = some (.ins A.jX dx (fP ws.length pw)) → H' pw = some (.lst (ws.map V.str)) → Q .non H'
section
variable {P : Program} {w : World} {K : W.Frag} {mg : Str → Option Value} {base : Heap} {A : dW}
theorem WR (T : Txt K mg A) : aF P w K mg base cD 3 A.jP A.jQ ["self"] (Y5 A) := by
 have cg := vo (P := P) (w := w) (base := base) T
 refine T.Bj.ok Ac (fun vs H Q E h => ?_) (fun cdv A0 outer s H vs Q E hr h => ?_)
 · obtain ⟨p, dx, rfl, _⟩ := h
   rfl
 obtain ⟨p, dx, rfl, hp, q⟩ := h
 refine ⟨_, (zF (uQ (tM T.rR cg ‹hr› rfl T.QW T.fY zM (zA (pv 0) (zA zE (zA zE zB)))))), ?_⟩
 exact ⟨_, rfl, p, A.kE, dx, 0, 1, rfl, hp, T.OJ, T.Lz, T.Jm, q⟩
theorem WT (T : Txt K mg A) : aF P w K mg base cD 3 A.lN A.lO ["self", "words"] (Y6 A) := by
 have cg := vo (P := P) (w := w) (base := base) T
 refine T.Dv.ok BK (fun vs H Q E h => ?_) (fun cdv A0 outer s H vs Q E hr h => ?_)
 · obtain ⟨p, dx, pl, ws, rfl, _⟩ := h
   rfl
 obtain ⟨p, dx, pl, ws, rfl, hp, hl, q⟩ := h
 refine ⟨_, (zC (uQ (tM T.rR cg ‹hr› rfl T.QW T.fY zM (zA (pv 0) (zA zE (zA (zL m9 (zR yI (by rfl) T.jy PySem.boot_len (zA (pv 1) zB)) zE) zB)))))
     (zF (yN (pv 0) (yL xB (by rfl) T.oE Bt.list (zA (pv 1) zB)) rfl))), ?_⟩
 have hne : pl ≠ p := My hl hp (by intro z; cases z)
 refine ⟨_, rfl, _, rfl, pl, _, rfl, .inl (bz.of hl), _, _, rfl, rfl, ?_⟩
 rw [List.length_map]
 refine ⟨p, A.jX, dx, 0, (ws.length : Int) - 1, rfl, hp, T.Ff, T.O1, T.LK, ?_⟩
 refine ⟨_, rfl, pl, _, rfl, .inl (bz.of (by rw [zP hne]; exact hl)), fun pw hw => ?_⟩
 have hwp : pw ≠ p := fun z => by subst z; rw [zD] at hw; cases hw
 refine ⟨_, rfl, p, A.jX, dx, _, rfl, (by rw [zP (Ne.symm hwp)]; exact zD), T.Ff, T.vX, (by show 2 < 1000; decide), ?_⟩
 rw [Ug]
 rw [zP hwp] at hw
 refine q pw _ (fun b o hb e => ?_) zD ?_
 · rw [zP hb]
   by_cases z : b = pw
   · subst z; rw [hw] at e; cases e
   · rw [zP z, zP hb]; exact e
 · rw [zP hwp]; exact zD
end
end fX
set_option maxHeartbeats 4000000
namespace fX
open PySem L2
seal PE PT PW PA PS jG PG tE PI PO iV ir uT bL iW qU sy PC wD
local macro_rules | `(tactic| walk_at "rd1") => `(tactic| first
 | (refine And.intro rfl ?_)
 | (refine And.intro (by assumption) ?_)
 | (refine And.intro (fun _ e => e) ?_)
 | (refine And.intro (au.str _) ?_) | (refine And.intro (au.int _) ?_) | (refine And.intro (au.bl _) ?_) | (refine And.intro au.non ?_)
 | (refine cQ ?_) | (refine aM ?_)
 | (apply Exists.intro))
local macro_rules | `(tactic| walk_at "rd") => `(tactic| repeat (walk_at "rd1"))
abbrev wv (ws : List (List Nat)) : List V := ws.map fun l => V.str (S l)
def bd2 : Option Int → Option Int → Bool
 | some a, some b => decide (a ≤ b)
 | _, _ => false
def bdB : List (Option Int) → Bool
 | [a, b] => bd2 a b
 | _ => false
def bk2 (mk : Int → Int → KU) : Option Int → Option Int → Option KU
 | some a, some b => if a ≤ b then some (mk a b) else none
 | _, _ => none
def Y7 (mk : Int → Int → KU) : List (Option Int) → Option KU
 | [a, b] => bk2 mk a b
 | _ => none
theorem R9 {os : List (Option Int)} (h : bdB os = true) : ∃ a b, os = [some a, some b] ∧ a ≤ b := by
 match os, h with
 | [some a, some b], h => exact ⟨a, b, rfl, of_decide_eq_true h⟩
 | [none, _], h => cases h
 | [some _, none], h => cases h
theorem O8 {mk : Int → Int → KU} {os : List (Option Int)} (h : bdB os = false) : Y7 mk os = none := by
 match os, h with
 | [], _ => rfl
 | [_], _ => rfl
 | [none, _], _ => rfl
 | [some _, none], _ => rfl
 | [some a, some b], h => exact if_neg (of_decide_eq_false h)
 | _ :: _ :: _ :: _, _ => rfl
def HF (ws : List (List Nat)) : Option KU := Y7 .wh (ws.map fun l => fM l 60)
def HH (ws : List (List Nat)) : Option KU := Y7 .mo (ws.map mL)
def Kl (ws : List (List Nat)) : Option KU := if 2 ≤ ws.length ∧ ws.length ≤ 6 ∧ N.iU (wv ws) = true then some (.pk (ws.map S)) else none
def BR : List (List Nat) → Option KU
 | [l] => match fM l 60 with
   | some m => if 1 ≤ m ∧ m ≤ 6 then some (.nm m.toNat) else none
   | none => none
 | _ => none
def ph (l : List Nat) (ws : List (List Nat)) : Option KU :=
 if l = cd ‹"yesno"› then (if ws.length = 0 then some .yn else none) else if l = cd ‹"whole"› then HF ws else if l = cd ‹"money"› then HH ws
 else if l = cd ‹"pick"› then Kl ws else if l = cd ‹"names"› then BR ws else none
def O9 (ws : List (List Nat)) : Option KU := ph (ws.headD []) ws.tail
def KR (A : dW) (H : Hp) (x : V) : Option KU → Prop
 | none => x = .non
 | some ku => ∃ p, x = .ref p ∧ st A ku H p
def apC (K : W.Frag) : Sp := fun vs H Q _ => ∃ (p : Addr) (os : List (Option Int)), vs = [.ref p] ∧ bz K H p (os.map jE) ∧ Q (.bl (bdB os)) H
def Y8 (A : dW) (K : W.Frag) (f : List (List Nat) → Option KU) : Sp := fun vs H Q _ => ∃ (p : Addr) (ws : List (List Nat)), vs = [.ref p] ∧ H p = some (.lst (wv ws)) ∧ ws.length ≤ 900 ∧ (∀ l ∈ ws, bN 900 (S l)) ∧ ∀ x H', aB H H' → KR A H' x (f ws) → Q x H'
def aes (A : dW) (K : W.Frag) : Sp := fun vs H Q _ => ∃ (l : List Nat) (p : Addr) (ws : List (List Nat)), vs = [.str (S l), .ref p] ∧ H p = some (.lst (wv ws)) ∧ ws.length ≤ 900 ∧ (∀ l ∈ ws, bN 900 (S l)) ∧ ∀ x H', aB H H' → KR A H' x (ph l ws) → Q x H'
def aet (A : dW) (K : W.Frag) : Sp := fun vs H Q E => ∃ x, vs = [x] ∧ ((∃ z, x = .str z ∧ bN 890 z ∧ (∀ ku, O9 (cR (cd z)) = some ku → ∀ p H', aB H H' → st A ku H' p → Q (.ref p) H') ∧ (O9 (cR (cd z)) = none → ∀ H', aB H H' → E (.ref A.yw) none H')) ∨
 (∃ t, Uw K H x t ∧ W.kitOne K t (.type "str") = some false ∧ ∀ H', aB H H' → E (.ref A.yw) none H'))
theorem Uk (os : List (Option Int)) : (os.map jE).all gw = true := by
 rw [List.all_map, List.all_eq_true]
 intro o _
 cases o <;> rfl
theorem yK {H : Hp} {x dx : Addr} (nx : H x = none) (nd : H dx = none) (o : HO) : aB H (upd (upd H dx (.own x)) x o) := fun b u e => by
 rw [zP (zV e nx), zP (zV e nd)]; exact e
theorem Pa {l : List Nat} {z : Str} : decide (V.str (S l) = V.str z) = decide (l = cd z) := by
 rw [Bool.eq_iff_iff, decide_eq_true_iff, decide_eq_true_iff]
 constructor
 · intro e; rw [← V.str.inj e, dq]
 · intro e; rw [e, fL]
theorem aeu (x : V) (r : List V) : Il (x :: r) (some 1) none = r := by
 unfold Il
 have e1 : HT.tH (x :: r).length 0 (some 1) = 1 := by
   show (if (1 : Int) < 0 then ((1 : Int) + ((x :: r).length : Nat)).toNat else min (1 : Int).toNat (x :: r).length) = _
   rw [if_neg (by decide), List.length_cons]; show min 1 _ = 1; omega
 have e2 : HT.tH (x :: r).length (x :: r).length none = (x :: r).length := rfl
 rw [e1, e2]
 show r.take (r.length + 1 - 1) = r
 rw [Nat.add_sub_cancel, List.take_length]
theorem abn {os : List (Option Int)} (h : os.length ≠ 2) : bdB os = false := by
 match os with
 | [] => rfl
 | [_] => rfl
 | [_, _] => exact absurd rfl h
 | _ :: _ :: _ :: _ => rfl
section
variable {P : Program} {w : World} {K : W.Frag} {mg : Str → Option Value} {base : Heap} {A : dW}
theorem wk (T : Txt K mg A) : aF P w K mg base cD 1 A.mO A.rn ["numbers"] (apC K) := by
 refine T.K7.ok Jr (fun vs H Q E h => ?_) (fun cdv A0 outer s H vs Q E hr h => ?_)
 · obtain ⟨p, os, rfl, _⟩ := h
   rfl
 obtain ⟨p, os, rfl, hq, q⟩ := h
 refine ⟨_, (zF (zG (tD (xF yR (zR yI (by rfl) T.jy PySem.boot_len (zA (pv 0) zB)) zE (zS _)) (tD (xF KH yS (pv 0) (by rfl)) (wA (xF xY (yC zU (pv 0) zE (fun _ _ => rfl)) (yC zU (pv 0) zE (fun _ _ => rfl)) (zS _))))))), ?_⟩
 refine ⟨_, rfl, p, _, rfl, .inl hq, rfl, _, rfl, du (fun c => ?_) (fun c => ?_)⟩
 · have c1 : (((os.map jE).length : Nat) : Int) = 2 := V.int.inj (of_decide_eq_true c)
   rw [List.length_map] at c1
   obtain ⟨a, b, rfl⟩ : ∃ a b, os = [a, b] := by
     match os, c1 with
     | [a, b], _ => exact ⟨a, b, rfl⟩
     | [], h => exact absurd h (by decide)
     | [_], h => exact absurd h (by show ¬ ((1 : Nat) : Int) = 2; decide)
     | _ :: _ :: _ :: r, h => exact absurd h (by rw [List.length_cons, List.length_cons, List.length_cons]; omega)
   refine ⟨_, rfl, p, _, rfl, .inl hq, rfl, Uk _, _, rfl, ?_⟩
   cases a with
   | none => exact V0 rfl q
   | some a =>
     cases b with
     | none => exact V0 rfl q
     | some b =>
       have h0 : wB [jE (some a), jE (some b)] ((0 : Nat) : Int) = some (.int a) := yG rfl
       have h1 : wB [jE (some a), jE (some b)] ((1 : Nat) : Int) = some (.int b) := yG rfl
       exact aaZ rfl ⟨_, rfl, p, _, _, _, rfl, rfl, hq, h0, _, rfl, p, _, _, _, rfl, rfl, hq, h1, _, _, rfl, rfl, q⟩
 · have c1 : os.length ≠ 2 := fun e => c (decide_eq_true (by rw [List.length_map, e]; rfl))
   rw [abn c1] at q
   exact q
theorem BV (T : Txt K mg A) : aF P w K mg base cD 4 A.iM A.lQ ["words"] (Y8 A K HF) := by
 have fJ := xT (P := P) (w := w) (base := base) T
 have rT := wk (P := P) (w := w) (base := base) T
 have cg := vo (P := P) (w := w) (base := base) T
 refine T.Dy.ok qC (fun vs H Q E h => ?_) (fun cdv A0 outer s H vs Q E hr h => ?_)
 · obtain ⟨p, ws, rfl, _⟩ := h
   rfl
 obtain ⟨p, ws, rfl, hp, h9, hf, q⟩ := h
 refine ⟨_, (zC (Ga (i := 1) qC.nd rfl (by first | exact Or.inl rfl | exact Or.inr rfl) (yQ (x := "word") (M := ["words", "numbers"]) rfl (by rfl)) rfl (oU (pv 0)) (fun _ _ _ _ => (zI fJ ‹hr› rfl T.j0 T.jZ T.jY .nil zM (zA (pv 0) zB))))
     (zF (zG (xD (yA (zI rT ‹hr› rfl T.zc T.zb T.za .nil zM (zA (pv 1) zB))) (yU T.Wo cg ‹hr› rfl T.YS T.fY .nil zM (zA (yC zU (pv 1) zE (fun _ _ => rfl)) (zA (yC zU (pv 1) zE (fun _ _ => rfl)) zB))) yS)))), ?_⟩
 refine ⟨_, rfl, p, rfl, ⟨_, bz.of hp⟩, ?_⟩
 refine xR (xs := wv ws) (zN (m := 900) (by rw [List.length_map]; exact h9)) (fun i ys H' => aB H H' ∧ ys = (ws.take i).map fun l => jE (fM l 60)) ⟨aB.refl _, rfl⟩ (fun i ys H' hw => bz.of (hw.1 _ _ hp)) (fun i x ys H' hx _ hw => ?_) (fun ys H' _ hw p2 hp2 => ?_)
 · obtain ⟨sH, rfl⟩ := hw
   obtain ⟨l, hli, rfl⟩ := qX hx
   refine ⟨_, rfl, S l, rfl, (hf l (List.mem_of_getElem? hli)).mono (by decide), fun H2 s2 => ⟨sH.trans s2, ?_⟩⟩
   rw [List.take_succ, hli, List.map_append, dq]; rfl
 obtain ⟨sH, rfl⟩ := hw
 rw [List.length_map, List.take_length]
 have s2 := zK hp2 (.lst (ws.map fun l => jE (fM l 60)))
 have s12 := sH.trans s2
 have hp2' : upd H' p2 (.lst (ws.map fun l => jE (fM l 60))) p2 = some (.lst ((ws.map fun l => fM l 60).map jE)) := by rw [zD, List.map_map]; rfl
 generalize upd H' p2 (.lst (ws.map fun l => jE (fM l 60))) = H2 at s12 hp2'
 generalize ho : (ws.map fun l => fM l 60) = os at hp2'
 refine ⟨_, rfl, p2, os, rfl, bz.of hp2', _, rfl, ?_⟩
 have ek : HF ws = Y7 .wh os := by unfold HF; rw [ho]
 cases hb : bdB os with
 | false =>
   refine aM (q _ _ s12 ?_)
   rw [ek]
   have : Y7 .wh os = none := O8 hb
   rw [this]; rfl
 | true =>
   obtain ⟨a, b, rfl, hab⟩ : ∃ a b, os = [some a, some b] ∧ a ≤ b := R9 hb
   have h0 : wB [jE (some a), jE (some b)] ((0 : Nat) : Int) = some (.int a) := yG rfl
   have h1 : wB [jE (some a), jE (some b)] ((1 : Nat) : Int) = some (.int b) := yG rfl
   refine cQ ⟨_, rfl, p2, _, _, _, rfl, rfl, bz.of hp2', h0, _, rfl, p2, _, _, _, rfl, rfl, bz.of hp2', h1, ?_⟩
   intro x dx nx nd ne
   refine ⟨x, A.jx, dx, a, b, rfl, zD, T.ux, T.zy, T.vV, rfl, ?_⟩
   rw [yH]
   refine q _ _ (s12.trans (yK nx nd _)) ?_
   rw [ek, show Y7 .wh [some a, some b] = some (.wh a b) from if_pos hab]
   exact ⟨x, rfl, dx, _, zD, rfl⟩
theorem Jx (T : Txt K mg A) : qd P w K mg base cD 4 A.dY A.gB ["words"] (Y8 A K HH) := by
 have Ep := BP (P := P) (w := w) (base := base) T
 have rT := wk (P := P) (w := w) (base := base) T
 have cg := vo (P := P) (w := w) (base := base) T
 refine T.tX.okP jH (fun vs H Q E h => ?_) (fun cdv A0 outer s H vs Q E hr h => ?_)
 · obtain ⟨p, ws, rfl, _⟩ := h
   rfl
 obtain ⟨p, ws, rfl, hp, h9, hf, q⟩ := h
 refine ⟨_, (J3 (TY (i := 1) jH.nd rfl (by first | exact Or.inl rfl | exact Or.inr rfl) (yQ (x := "word") (M := ["words", "numbers"]) rfl (by rfl)) rfl (oU (pv 0)) (fun _ _ _ _ => (N6 Ep ‹hr› rfl T.Dq T.Dp T.Dm .nil zM (zA (pv 0) zB))))
     (zF (zG (xD (yA (zI rT ‹hr› rfl T.zc T.zb T.za .nil zM (zA (pv 1) zB))) (yU T.Wq cg ‹hr› rfl T.YL T.fY .nil zM (zA (yC zU (pv 1) zE (fun _ _ => rfl)) (zA (yC zU (pv 1) zE (fun _ _ => rfl)) zB))) yS)))), ?_⟩
 refine ⟨_, rfl, p, rfl, ⟨_, bz.of hp⟩, ?_⟩
 refine xR (xs := wv ws) (zN (m := 900) (by rw [List.length_map]; exact h9)) (fun i ys H' => aB H H' ∧ ys = (ws.take i).map fun l => jE (mL l)) ⟨aB.refl _, rfl⟩ (fun i ys H' hw => bz.of (hw.1 _ _ hp)) (fun i x ys H' hx _ hw => ?_) (fun ys H' _ hw p2 hp2 => ?_)
 · obtain ⟨sH, rfl⟩ := hw
   obtain ⟨l, hli, rfl⟩ := qX hx
   refine ⟨_, rfl, S l, rfl, (hf l (List.mem_of_getElem? hli)).mono (by decide), fun H2 s2 => ⟨sH.trans s2, ?_⟩⟩
   rw [List.take_succ, hli, List.map_append, dq]; rfl
 obtain ⟨sH, rfl⟩ := hw
 rw [List.length_map, List.take_length]
 have s2 := zK hp2 (.lst (ws.map fun l => jE (mL l)))
 have s12 := sH.trans s2
 have hp2' : upd H' p2 (.lst (ws.map fun l => jE (mL l))) p2 = some (.lst ((ws.map mL).map jE)) := by rw [zD, List.map_map]; rfl
 generalize upd H' p2 (.lst (ws.map fun l => jE (mL l))) = H2 at s12 hp2'
 generalize ho : (ws.map mL) = os at hp2'
 refine ⟨_, rfl, p2, os, rfl, bz.of hp2', _, rfl, ?_⟩
 have ek : HH ws = Y7 .mo os := by unfold HH; rw [ho]
 cases hb : bdB os with
 | false =>
   refine aM (q _ _ s12 ?_)
   rw [ek]
   have : Y7 .mo os = none := O8 hb
   rw [this]; rfl
 | true =>
   obtain ⟨a, b, rfl, hab⟩ : ∃ a b, os = [some a, some b] ∧ a ≤ b := R9 hb
   have h0 : wB [jE (some a), jE (some b)] ((0 : Nat) : Int) = some (.int a) := yG rfl
   have h1 : wB [jE (some a), jE (some b)] ((1 : Nat) : Int) = some (.int b) := yG rfl
   refine cQ ⟨_, rfl, p2, _, _, _, rfl, rfl, bz.of hp2', h0, _, rfl, p2, _, _, _, rfl, rfl, bz.of hp2', h1, ?_⟩
   intro x dx nx nd ne
   refine ⟨x, A.ju, dx, a, b, rfl, zD, T.uy, T.zz, T.vW, rfl, ?_⟩
   rw [yH]
   refine q _ _ (s12.trans (yK nx nd _)) ?_
   rw [ek, show Y7 .mo [some a, some b] = some (.mo a b) from if_pos hab]
   exact ⟨x, rfl, dx, _, zD, rfl⟩
theorem Er (T : Txt K mg A) : aF P w K mg base cD 5 A.jl A.nW ["words"] (Y8 A K Kl) := by
 have xr := N.Q9 (P := P) (w := w) (base := base) T
 have Es := WT (P := P) (w := w) (base := base) T
 refine T.GJ.ok Ek (fun vs H Q E h => ?_) (fun cdv A0 outer s H vs Q E hr h => ?_)
 · obtain ⟨p, ws, rfl, _⟩ := h
   rfl
 obtain ⟨p, ws, rfl, hp, h9, hf, q⟩ := h
 refine ⟨_, (zC (yB (PW.pt (pB (MP xY xY (xL rfl T.Hb) (zR yI (by rfl) T.jy PySem.boot_len (zA (pv 0) zB)) (xL rfl T.Ln)) (oR (yA (zI xr ‹hr› rfl T.wQ T.wO T.wN .nil zM (zA (pv 0) zB)))))) (zF (zG (yU T.YX Es ‹hr› rfl T.abj T.Dw .nil zM (zA (pv 0) zB)))) zO)
     (zF (zG yS))), ?_⟩
 have non : ¬ (2 ≤ ws.length ∧ ws.length ≤ 6 ∧ N.iU (wv ws) = true) → ∀ H', aB H H' → Q .non H' := fun c H' s' => q _ _ s' (by unfold Kl; rw [if_neg c]; rfl)
 refine ⟨_, rfl, p, _, rfl, .inl (bz.of hp), _, _, rfl, rfl, _, rfl, ?_⟩
 rw [List.length_map]
 refine du (fun c => ⟨_, _, rfl, rfl, _, rfl, du (fun c2 => ?_) (fun c2 => ?_)⟩) (fun c => ⟨_, rfl, ?_⟩)
 · refine ⟨_, rfl, p, _, rfl, bz.of hp, by rw [List.length_map]; omega, fun x hx => ?_, fun H1 s1 => ⟨_, rfl, du (fun c3 => ?_) (fun c3 => ?_)⟩⟩
   · obtain ⟨l, hl, rfl⟩ := List.mem_map.mp hx
     exact ⟨⟨Z2 T _ _, trivial⟩, fun z e => by cases e; exact hf l hl⟩
   · refine ⟨_, rfl, ?_⟩
     intro x dx nx nd ne
     have s2 := yK nx nd (.ins A.jX dx [])
     have ew : wv ws = (ws.map S).map V.str := by rw [List.map_map]; rfl
     refine ⟨x, dx, p, ws.map S, rfl, zD, (by rw [← ew]; exact (s1.trans s2) _ _ hp), fun pw H' F hx' hw' => ⟨rfl, ?_⟩⟩
     refine q _ _ (fun b o hb => ?_) ?_
     · have h1 := s1 _ _ hb
       exact F b o (zV h1 nx) (s2 _ _ h1)
     · unfold Kl
       have d1 : (2 : Int) ≤ ws.length := of_decide_eq_true c
       have d2 : (ws.length : Int) ≤ 6 := of_decide_eq_true c2
       rw [if_pos ⟨by omega, by omega, c3⟩]
       exact ⟨x, rfl, dx, _, hx', pw, rfl, hw'⟩
   · exact non (fun z => c3 z.2.2) _ s1
 · exact non (fun z => c2 (decide_eq_true (by show (ws.length : Int) ≤ 6; omega))) _ (aB.refl _)
 · exact non (fun z => c (decide_eq_true (by show (2 : Int) ≤ ws.length; omega))) _ (aB.refl _)
theorem BX (T : Txt K mg A) : aF P w K mg base cD 5 A.iQ A.lR ["words"] (Y8 A K BR) := by
 have fJ := xT (P := P) (w := w) (base := base) T
 have BZ := N.Ww (P := P) (w := w) (base := base) T
 refine T.DN.ok qD (fun vs H Q E h => ?_) (fun cdv A0 outer s H vs Q E hr h => ?_)
 · obtain ⟨p, ws, rfl, _⟩ := h
   rfl
 obtain ⟨p, ws, rfl, hp, h9, hf, q⟩ := h
 refine ⟨_, (zC (zY (i := 1) qD.nd rfl (by first | exact Or.inl rfl | exact Or.inr rfl) (xD (zQ yR (zR yI (by rfl) T.jy PySem.boot_len (zA (pv 0) zB)) zE (zS _)) (zI fJ ‹hr› rfl T.j0 T.jZ T.jY .nil zM (zA (yC zU (pv 0) zE (fun _ _ => rfl)) zB)) yS))
     (zF (zG (xD (PW.pt (pB (zQ Ex (pv 1) yS (zS _)) (oR (MP xY xY zE (pv 1) (xL rfl T.Lk))))) (yU T.Wr BZ ‹hr› rfl T.YM T.Bo .nil zM (zA (pv 1) zB)) yS)))), ?_⟩
 refine ⟨_, rfl, p, _, rfl, .inl (bz.of hp), rfl, _, rfl, du (fun c => ?_) (fun c => ?_)⟩
 · have c1 : (((wv ws).length : Nat) : Int) = 1 := V.int.inj (of_decide_eq_true c)
   rw [List.length_map] at c1
   obtain ⟨l, rfl⟩ : ∃ l, ws = [l] := by
     match ws, c1 with
     | [l], _ => exact ⟨l, rfl⟩
     | [], h => exact absurd h (by decide)
     | _ :: _ :: r, h => exact absurd h (by rw [List.length_cons, List.length_cons]; omega)
   have h0 : wB (wv [l]) ((0 : Nat) : Int) = some (.str (S l)) := yG rfl
   refine ⟨_, rfl, p, _, _, _, rfl, rfl, bz.of hp, h0, S l, rfl, (hf l (by simp)).mono (by decide), fun H1 s1 => ?_⟩
   rw [dq]
   cases hn : fM l 60 with
   | none =>
     refine ⟨_, rfl, rfl, _, rfl, V0 rfl (aM (q _ _ s1 ?_))⟩
     show KR A H1 .non (match fM l 60 with | some m => if 1 ≤ m ∧ m ≤ 6 then some (.nm m.toNat) else none | none => none)
     rw [hn]; rfl
   | some m =>
     refine ⟨_, rfl, rfl, _, rfl, aaZ rfl ?_⟩
     have en : BR [l] = if 1 ≤ m ∧ m ≤ 6 then some (.nm m.toNat) else none := by
       show (match fM l 60 with | some m => if 1 ≤ m ∧ m ≤ 6 then some (KU.nm m.toNat) else none | none => none) = _
       rw [hn]
     refine ⟨_, rfl, _, _, rfl, rfl, _, rfl, du (fun c2 => ⟨_, _, rfl, rfl, _, rfl, du (fun c3 => ?_) (fun c3 => ?_)⟩) (fun c2 => ⟨_, rfl, ?_⟩)⟩
     · have d1 : (1 : Int) ≤ m := of_decide_eq_true c2
       have d2 : m ≤ 6 := of_decide_eq_true c3
       refine ⟨_, rfl, ?_⟩
       intro x dx nx nd ne
       refine ⟨x, dx, m, rfl, zD, rfl, ?_⟩
       rw [yH]
       refine q _ _ (s1.trans (yK nx nd _)) ?_
       rw [en, if_pos ⟨d1, d2⟩]
       refine ⟨x, rfl, dx, _, zD, ?_⟩
       show N.jF m = jF 0 (m.toNat : Nat)
       rw [show ((m.toNat : Nat) : Int) = m by omega]
     · refine q _ _ s1 ?_
       rw [en, if_neg (fun z => c3 (decide_eq_true z.2))]; rfl
     · refine aM (q _ _ s1 ?_)
       rw [en, if_neg (fun z => c2 (decide_eq_true z.1))]; rfl
 · refine ⟨_, rfl, rfl, _, rfl, V0 rfl (aM (q _ _ (aB.refl _) ?_))⟩
   have : BR ws = none := by
     match ws, c with
     | [], _ => rfl
     | [l], h => exact absurd (decide_eq_true rfl) h
     | _ :: _ :: _, _ => rfl
   rw [this]; rfl
theorem abo (T : Txt K mg A) : aF P w K mg base cD 6 A.jm A.nY ["first", "words"] (aes A K) := by
 have Ca := WR (P := P) (w := w) (base := base) T
 have Et := BV (P := P) (w := w) (base := base) T
 have uG := Jx (P := P) (w := w) (base := base) T
 have HJ := Er (P := P) (w := w) (base := base) T
 have Eu := BX (P := P) (w := w) (base := base) T
 refine T.GR.ok El (fun vs H Q E h => ?_) (fun cdv A0 outer s H vs Q E hr h => ?_)
 · obtain ⟨l, p, ws, rfl, _⟩ := h
   rfl
 obtain ⟨l, p, ws, rfl, hp, h9, hf, q⟩ := h
 refine ⟨_, (YD (V9 yR (pv 0) YC (zS _)) (jG.made (zF (zG (xD (zQ yR (zR yI (by rfl) T.jy PySem.boot_len (zA (pv 1) zB)) zE (zS _)) (Ve T.Wn Ca ‹hr› rfl T.YT T.Bk .nil zM) yS)))) (jG.made zO)
     (Gm (PS.made (yB (zQ yR (pv 0) zJ (zS _)) (zF (zG (zI Et ‹hr› rfl T.DK T.DG T.Dz .nil zM (zA (pv 1) zB)))) zO))
     (Gm (aa5 (zQ yR (pv 0) zJ (zS _)) (V1 (Yw (N6 uG ‹hr› rfl T.uc T.tZ T.tY .nil zM (zA (pv 1) zB)))) (jG.made zO))
     (jG.made (zC (yB (zQ yR (pv 0) zJ (zS _)) (zF (zG (zI HJ ‹hr› rfl T.GQ T.GP T.GK .nil zM (zA (pv 1) zB)))) zO)
           (zC (yB (zQ yR (pv 0) zJ (zS _)) (zF (zG (zI Eu ‹hr› rfl T.DR T.DQ T.DP .nil zM (zA (pv 1) zB)))) zO)
           (zF (zG yS)))))))), ?_⟩
 refine ⟨_, rfl, rfl, _, rfl, ?_⟩
 rw [Pa]
 refine du (fun c => ?_) (fun c => ?_)
 · have c' := of_decide_eq_true c
   have ek : ph l ws = if ws.length = 0 then some .yn else none := if_pos c'
   rw [ek] at q
   refine ⟨_, rfl, p, _, rfl, .inl (bz.of hp), rfl, _, rfl, du (fun d => ?_) (fun d => ?_)⟩
   · have d' : (((wv ws).length : Nat) : Int) = 0 := V.int.inj (of_decide_eq_true d)
     rw [List.length_map] at d'
     intro x dx nx nd ne
     refine ⟨x, dx, rfl, zD, rfl, ?_⟩
     rw [yH]
     refine q _ _ (yK nx nd _) ?_
     rw [if_pos (by omega)]
     exact ⟨x, rfl, dx, _, zD, rfl⟩
   · refine q _ _ (aB.refl _) ?_
     rw [if_neg (fun z => d (decide_eq_true (by rw [List.length_map, z]; rfl)))]; rfl
 have e1 : ph l ws = _ := if_neg (fun z => c (decide_eq_true z))
 refine ⟨_, rfl, rfl, _, rfl, ?_⟩
 rw [Pa]
 refine du (fun c2 => ?_) (fun c2 => ?_)
 · rw [e1, if_pos (of_decide_eq_true c2)] at q
   exact ⟨_, rfl, p, ws, rfl, hp, h9, hf, q⟩
 rw [if_neg (fun z => c2 (decide_eq_true z))] at e1
 refine ⟨_, rfl, rfl, _, rfl, ?_⟩
 rw [Pa]
 refine du (fun c3 => ?_) (fun c3 => ?_)
 · rw [e1, if_pos (of_decide_eq_true c3)] at q
   exact ⟨_, rfl, p, ws, rfl, hp, h9, hf, q⟩
 rw [if_neg (fun z => c3 (decide_eq_true z))] at e1
 refine ⟨_, rfl, rfl, _, rfl, ?_⟩
 rw [Pa]
 refine du (fun c4 => ?_) (fun c4 => ?_)
 · rw [e1, if_pos (of_decide_eq_true c4)] at q
   exact ⟨_, rfl, p, ws, rfl, hp, h9, hf, q⟩
 rw [if_neg (fun z => c4 (decide_eq_true z))] at e1
 refine ⟨_, rfl, rfl, _, rfl, ?_⟩
 rw [Pa]
 refine du (fun c5 => ?_) (fun c5 => ?_)
 · rw [e1, if_pos (of_decide_eq_true c5)] at q
   exact ⟨_, rfl, p, ws, rfl, hp, h9, hf, q⟩
 rw [if_neg (fun z => c5 (decide_eq_true z))] at e1
 rw [e1] at q
 exact q _ _ (aB.refl _) rfl
end
end fX
set_option maxHeartbeats 4000000
namespace fX
open PySem L2
seal PE PT PW PA PS jG PG tE PI PO iV ir uT bL iW qU sy PC wD
local macro_rules | `(tactic| walk_at "rd1") => `(tactic| first
 | (refine And.intro rfl ?_)
 | (refine And.intro (by assumption) ?_)
 | (refine And.intro (fun _ e => e) ?_)
 | (refine And.intro (au.str _) ?_) | (refine And.intro (au.int _) ?_) | (refine And.intro (au.bl _) ?_) | (refine And.intro au.non ?_)
 | (refine cQ ?_) | (refine aM ?_)
 | (apply Exists.intro))
local macro_rules | `(tactic| walk_at "rd") => `(tactic| repeat (walk_at "rd1"))
abbrev hYn : List Nat := cd ‹"yesno"›
abbrev hWh : List Nat := cd ‹"whole"›
abbrev hMo : List Nat := cd ‹"money"›
abbrev hPk : List Nat := cd ‹"pick"›
abbrev hNm : List Nat := cd ‹"names"›
theorem aey (r : List (List Nat)) : ph hWh r = HF r := (if_neg (by symm)).trans (if_pos rfl)
theorem aez (r : List (List Nat)) : ph hMo r = HH r := (if_neg (by symm)).trans ((if_neg (by symm)).trans (if_pos rfl))
theorem aeA (r : List (List Nat)) : ph hPk r = Kl r := (if_neg (by symm)).trans ((if_neg (by symm)).trans ((if_neg (by symm)).trans (if_pos rfl)))
theorem aeB (r : List (List Nat)) : ph hNm r = BR r := (if_neg (by symm)).trans ((if_neg (by symm)).trans ((if_neg (by symm)).trans ((if_neg (by symm)).trans (if_pos rfl))))
def CW : KU → Prop
 | .yn => True
 | .wh lo hi => (KU.wh lo hi).Good
 | .mo lo hi => (KU.mo lo hi).Good
 | .pk ws => 2 ≤ ws.length ∧ ws.length ≤ 6 ∧ ws.Nodup ∧ ∀ z ∈ ws, N.nameB z = true
 | .nm m => 1 ≤ m ∧ m ≤ 6
theorem CW.good {ku : KU} (h : CW ku) : ku.Good := by
 cases ku with
 | yn => trivial
 | wh lo hi => exact h
 | mo lo hi => exact h
 | pk ws => exact ⟨⟨h.2.2.1, fun z hz => dO (h.2.2.2 z hz)⟩, by have := h.1; omega, h.2.1⟩
 | nm m => exact h.2
def wds : KU → List (List Nat)
 | .yn => [hYn]
 | .wh lo hi => [hWh, cj lo, cj hi]
 | .mo lo hi => [hMo, cU lo, cU hi]
 | .pk ws => hPk :: ws.map cd
 | .nm m => [hNm, cj m]
theorem WW {ku : KU} (h : CW ku) : Ik ku = aR [32] (wds ku) := by
 cases ku with
 | yn => rfl
 | wh lo hi =>
   show cd ‹"whole "› ++ (cj lo ++ [32] ++ cj hi) = hWh ++ [32] ++ (cj lo ++ [32] ++ cj hi)
   rw [show cd ‹"whole "› = hWh ++ [32] by symm]
 | mo lo hi =>
   show cd ‹"money "› ++ (cU lo ++ [32] ++ cU hi) = hMo ++ [32] ++ (cU lo ++ [32] ++ cU hi)
   rw [show cd ‹"money "› = hMo ++ [32] by symm]
 | pk ws =>
   have h2 : 2 ≤ ws.length := h.1
   obtain ⟨a, r, e⟩ : ∃ a r, ws.map cd = a :: r := by
     cases hw : ws.map cd with
     | nil => have := congrArg List.length hw; rw [List.length_map] at this; simp at this; rw [this] at h2; simp at h2
     | cons a r => exact ⟨a, r, rfl⟩
   show cd ‹"pick "› ++ aR [32] (ws.map cd) = aR [32] (hPk :: ws.map cd)
   rw [e]
   show _ = hPk ++ [32] ++ aR [32] (a :: r)
   rw [show cd ‹"pick "› = hPk ++ [32] by symm]
 | nm m =>
   show cd ‹"names "› ++ cj m = hNm ++ [32] ++ cj m
   rw [show cd ‹"names "› = hNm ++ [32] by symm]
theorem HN {n : Int} (h : n.natAbs < 10 ^ 60) : fM (cj n) 60 = some n := by
 have g : (KU.wh n n).Good := ⟨Int.le_refl _, h, h⟩
 have := R7 (ku := .wh n n) (a := .i n) g (by show (decide (n ≤ n) && decide (n ≤ n)) = true; simp)
 have this : (fM (cj n) 60).map AV.i = some (.i n) := this
 cases e : fM (cj n) 60 with
 | none => rw [e] at this; cases this
 | some m => rw [e] at this; have : some (AV.i m) = some (.i n) := this; cases this; rfl
theorem HQ {n : Int} (h : n.natAbs < 10 ^ 60) : mL (cU n) = some n := by
 have g : (KU.mo n n).Good := ⟨Int.le_refl _, h, h⟩
 have := R7 (ku := .mo n n) (a := .i n) g (by show (decide (n ≤ n) && decide (n ≤ n)) = true; simp)
 have this : (mL (cU n)).map AV.i = some (.i n) := this
 cases e : mL (cU n) with
 | none => rw [e] at this; cases this
 | some m => rw [e] at this; have : some (AV.i m) = some (.i n) := this; cases this; rfl
theorem HR (n : Int) : 32 ∉ cj n := by
 intro h
 unfold cj at h
 split at h
 · rcases List.mem_cons.mp h with e | e
   · cases e
   · have := mK e; omega
 · have := mK h; omega
theorem Pb {n : Int} (h : n.natAbs < 10 ^ 60) : 32 ∉ cU n := by
 intro e
 have hb := HQ h
 unfold mL at hb
 by_cases c : (gA (cU n)).length = 0 ∨ (gA (cU n)).all inF = false ∨ 60 < (gA (cU n)).length
 · rw [if_pos c] at hb; cases hb
 · have hm : 32 ∈ gA (cU n) := by
     unfold gA
     rw [List.mem_filter, List.mem_filter]
     exact ⟨⟨e, by decide⟩, by decide⟩
   have ha : (gA (cU n)).all inF = true := by
     cases z : (gA (cU n)).all inF with
     | true => rfl
     | false => exact absurd (.inr (.inl z)) c
   have := (qY 32).mp (List.all_eq_true.mp ha 32 hm)
   omega
theorem Ul {z : Str} (h : N.nameB z = true) : 32 ∉ cd z := fun e => by have := (dO h).2.2 _ e; omega
theorem WX {ku : KU} (h : CW ku) : ∀ l ∈ wds ku, 32 ∉ l := by
 intro l hl
 cases ku with
 | yn => rw [List.mem_singleton.mp hl]; decide +kernel
 | wh lo hi =>
   rcases List.mem_cons.mp hl with e | hl
   · rw [e]; decide +kernel
   · rcases List.mem_cons.mp hl with e | hl
     · rw [e]; exact HR _
     · rw [List.mem_singleton.mp hl]; exact HR _
 | mo lo hi =>
   rcases List.mem_cons.mp hl with e | hl
   · rw [e]; decide +kernel
   · rcases List.mem_cons.mp hl with e | hl
     · rw [e]; exact Pb h.2.1
     · rw [List.mem_singleton.mp hl]; exact Pb h.2.2
 | pk ws =>
   rcases List.mem_cons.mp hl with e | hl
   · rw [e]; decide +kernel
   · obtain ⟨z, hz, rfl⟩ := List.mem_map.mp hl
     exact Ul (h.2.2.2 z hz)
 | nm m =>
   rcases List.mem_cons.mp hl with e | hl
   · rw [e]; decide +kernel
   · rw [List.mem_singleton.mp hl]; exact HR _
theorem abp (ku : KU) : wds ku ≠ [] := by cases ku <;> (intro e; cases e)
theorem aeC (ws : List Str) : wv (ws.map cd) = ws.map V.str := by
 show List.map (fun l => V.str (S l)) (ws.map cd) = _
 rw [List.map_map]; exact List.map_congr_left fun z _ => by show V.str (S (cd z)) = V.str z; rw [fL]
theorem WY {ku : KU} (h : CW ku) : O9 (wds ku) = some ku := by
 cases ku with
 | yn => rfl
 | wh lo hi =>
   show ph hWh [cj lo, cj hi] = _
   rw [aey]
   show bk2 .wh (fM (cj lo) 60) (fM (cj hi) 60) = _
   rw [HN h.2.1, HN h.2.2]
   exact if_pos h.1
 | mo lo hi =>
   show ph hMo [cU lo, cU hi] = _
   rw [aez]
   show bk2 .mo (mL (cU lo)) (mL (cU hi)) = _
   rw [HQ h.2.1, HQ h.2.2]
   exact if_pos h.1
 | pk ws =>
   show ph hPk (ws.map cd) = _
   rw [aeA]
   unfold Kl
   rw [aeC, N.CV, List.length_map, if_pos ⟨h.1, h.2.1, by rw [List.all_eq_true.mpr h.2.2.2, decide_eq_true h.2.2.1]; rfl⟩, Z3]
 | nm m =>
   show ph hNm [cj m] = _
   rw [aeB]
   have h1 : 1 ≤ m := h.1
   have h6 : m ≤ 6 := h.2
   have p60 : (7 : Nat) < 10 ^ 60 := by symm
   have e : BR [cj (m : Int)] = (match fM (cj (m : Int)) 60 with | some m => if 1 ≤ m ∧ m ≤ 6 then some (KU.nm m.toNat) else none | none => none) := rfl
   rw [e, HN (by omega)]
   show (if 1 ≤ (m : Int) ∧ (m : Int) ≤ 6 then some (KU.nm (m : Int).toNat) else none) = _
   rw [if_pos ⟨by omega, by omega⟩]; rfl
theorem Um {ku : KU} (h : CW ku) : O9 (cR (Ik ku)) = some ku := by
 rw [WW h, uX (abp ku) (WX h), WY h]
section
variable {P : Program} {w : World} {K : W.Frag} {mg : Str → Option Value} {base : Heap} {A : dW}
theorem abq (T : Txt K mg A) : aF P w K mg base (vz P w) 7 A.vd A.Bb ["text"] (aet A K) := by
 have HS := abo (P := P) (w := w) (base := base) T
 refine T.T4.ZG xj (fun vs H Q E h => ?_) (fun cdv A0 outer s H vs' Q E hr h => ?_)
 · obtain ⟨x, rfl, _⟩ := h
   rfl
 obtain ⟨x, rfl, h⟩ := h
 refine ⟨_, (zC (yB (yM (yA (zR yO (by rfl) T.aJ Bt.isinstance (zA (pv 0) (zA (xO (v := .ty "str") rfl T.oF Bt.str rfl) zB))))) (zF (xM T.Ou T.Ow (zA zJ zB) rfl)) zO)
     (zC (zY (i := 1) xj.nd rfl (by first | exact Or.inl rfl | exact Or.inr rfl) (tL PySem.F.plainAttrs_str PySem.F.slot_str_split PySem.F.type_str_split NT (pv 0) (zA zJ zB)))
     (zC (zY (i := 2) xj.nd rfl (by first | exact Or.inl rfl | exact Or.inr rfl) (zI HS ‹hr› rfl T.G3 T.GZ T.GX .nil zM (zA (yC zU (pv 1) zE (fun _ _ => rfl)) (zA (yW EY (pv 1) (xA zE) xG) zB))))
     (zC (yB (zQ Kw (pv 2) yS (zS _)) (zF (xM T.Ou T.Ow (zA (Ge (pv 0)) zB) rfl)) zO)
     (zF (zG (pv 2))))))), ?_⟩
 rcases h with ⟨z, rfl, hz, qs, qn⟩ | ⟨t, ty, kt, q⟩
 · refine ⟨_, rfl, _, _, _, _, rfl, rfl, .old (.str z), T.qy, _, rfl, aM ?_⟩
   refine ⟨_, rfl, rfl, z, _, rfl, rfl, (by symm), Nat.le_trans hz.len (by decide), fun l hl => ?_⟩
   have sl := zK hl (.lst ((Txt.split z ‹" "›).map V.str))
   have ew : (Txt.split z ‹" "›).map V.str = wv (cR (cd z)) := by
     rw [show ‹" "› = S [32] by symm, N5, List.map_map]; rfl
   rw [ew] at sl ⊢
   have hlw : upd H l (.lst (wv (cR (cd z)))) l = some (.lst (wv (cR (cd z)))) := zD
   generalize upd H l (.lst (wv (cR (cd z)))) = H1 at sl hlw
   have hlen : (cR (cd z)).length ≤ 893 := by
     unfold cR
     rw [List.length_map]
     have h1 := PyProof.Rows.split_le (S (cd z)) (S [32])
     rw [fL] at h1
     have := hz.len
     rw [fL]
     omega
   have hfw : ∀ w' ∈ cR (cd z), bN 900 (S w') := fun w' hw' => by
     have e := Cp (cd z)
     refine ⟨?_, fun c hc => ?_⟩
     · have h1 := N.Kg (sep := [32]) hw'
       rw [e] at h1
       have := hz.len
       rw [zW]; rw [yD] at this; omega
     · rw [dq] at hc
       have h1 := N.Kf (sep := [32]) hw' hc
       rw [e] at h1
       exact hz.KY c h1
   cases hs : cR (cd z) with
   | nil => exact absurd hs (J2 _)
   | cons w0 r =>
     rw [hs] at hlw hlen hfw qs qn
     have hat : wB (wv (w0 :: r)) ((0 : Nat) : Int) = some (.str (S w0)) := yG rfl
     refine ⟨_, rfl, l, _, _, _, rfl, rfl, bz.of hlw, hat, _, rfl, _, rfl, l, _, rfl, bz.of hlw, fun pc hpc => ?_⟩
     have ec : Il (wv (w0 :: r)) (some 1) none = wv r := aeu _ _
     rw [ec]
     have s2 := zK hpc (.lst (wv r))
     refine ⟨w0, pc, r, rfl, zD, (by rw [List.length_cons] at hlen; omega), fun l' hl' => hfw l' (List.mem_cons_of_mem _ hl'), fun x H3 s3 hk => ?_⟩
     have sA := sl.trans (s2.trans s3)
     have ek : O9 (w0 :: r) = ph w0 r := rfl
     cases ho : ph w0 r with
     | none =>
       rw [ho] at hk
       have hk : x = .non := hk
       subst hk
       refine ⟨_, rfl, rfl, _, rfl, cQ ⟨_, rfl, z, rfl, Nat.le_trans hz.len (by decide), hz.KY, fun y => ⟨(by show 1 ≤ sizeLine; decide), qn (ek.trans ho) _ sA⟩⟩⟩
     | some ku =>
       rw [ho] at hk
       obtain ⟨p, rfl, hp⟩ := hk
       exact ⟨_, rfl, rfl, _, rfl, aM ⟨_, rfl, qs ku (ek.trans ho) p _ sA hp⟩⟩
 · refine ⟨_, rfl, _, _, _, _, rfl, rfl, ty, kt, _, rfl, cQ ?_⟩
   exact ⟨(by show 1 ≤ sizeLine; decide), q _ (aB.refl _)⟩
end
end fX
set_option maxHeartbeats 4000000
namespace fX.Y
open PySem L2
seal PE PT PW PA PS jG PG tE PI PO iV ir uT bL iW qU sy PC wD
local macro_rules | `(tactic| walk_at "rd1") => `(tactic| first
 | (refine And.intro rfl ?_)
 | (refine And.intro (by assumption) ?_)
 | (refine And.intro (fun _ e => e) ?_)
 | (refine And.intro (au.str _) ?_) | (refine And.intro (au.int _) ?_) | (refine And.intro (au.bl _) ?_) | (refine And.intro au.non ?_)
 | (refine cQ ?_) | (refine aM ?_)
 | (apply Exists.intro))
local macro_rules | `(tactic| walk_at "rd") => `(tactic| repeat (walk_at "rd1"))
section
variable {P : Program} {w : World} {K : W.Frag} {mg : Str → Option Value} {base : Heap} {A : dW}
end
end fX.Y
namespace fX.Y
open PySem L2
seal PE PT PW PA PS jG PG tE PI PO iV ir uT bL iW qU sy PC wD
local macro_rules | `(tactic| walk_at "rd1") => `(tactic| first
 | (refine And.intro rfl ?_)
 | (refine And.intro (by assumption) ?_)
 | (refine And.intro (fun _ e => e) ?_)
 | (refine And.intro (au.str _) ?_) | (refine And.intro (au.int _) ?_) | (refine And.intro (au.bl _) ?_) | (refine And.intro au.non ?_)
 | (refine cQ ?_) | (refine aM ?_)
 | (apply Exists.intro))
local macro_rules | `(tactic| walk_at "rd") => `(tactic| repeat (walk_at "rd1"))
def kws : List V := [.str "and", .str "each", .str "end", .str "is", .str "not", .str "or", .str "unless", .str "when"]
def Mw (c : Nat) : Bool := !(Builtin.Str.occurrences "abcdefghijklmnopqrstuvwxyz" (S [c]) 0 ("abcdefghijklmnopqrstuvwxyz" : Str).length 1).isEmpty
def nameB (z : Str) : Bool := !(inV (.str z) kws) && decide ((1 : Int) ≤ z.length) && decide ((z.length : Int) ≤ 12) && (cd z).all Mw
def nameV : V → Bool
 | .str z => nameB z
 | _ => false
def Ok (K : W.Frag) (H : Hp) (x : V) : Prop := (∃ _ : Thing K H x, True) ∧ ∀ z, x = .str z → bN 1000 z
theorem Ok.same {K : W.Frag} {H H' : Hp} {x : V} (h : Ok K H x) (e : aB H H') : Ok K H' x := ⟨let ⟨⟨t, _⟩, _⟩ := h; ⟨t.same e, trivial⟩, h.2⟩
def strsOf (xs : List V) : List Str := xs.filterMap fun x => match x with | .str z => some z | _ => none
theorem qW : ∀ {xs : List V}, xs.all nameV = true → xs = (strsOf xs).map V.str
 | [], _ => rfl
 | x :: r, h => by
   rw [List.all_cons, Bool.and_eq_true] at h
   cases x with
   | str z => show V.str z :: r = V.str z :: (strsOf r).map V.str; rw [← qW h.2]
   | _ => cases h.1
theorem Hz (ws : List Str) : strsOf (ws.map V.str) = ws := by
 induction ws with
 | nil => rfl
 | cons a r ih => show a :: strsOf (r.map V.str) = _; rw [ih]
def HB (K : W.Frag) : Sp := fun vs H Q _ => ∃ x, vs = [x] ∧ Ok K H x ∧ ∀ H', aB H H' → Q (.bl (nameV x)) H'
section
variable {P : Program} {w : World} {K : W.Frag} {mg : Str → Option Value} {base : Heap} {A : dW}
theorem xq (T : Txt K mg A) : aF P w K mg base cD 1 A.qi A.uZ ["thing"] (HB K) := by
 refine T.J7.ok Hr (fun vs H Q E h => ?_) (fun cdv A0 outer s H vs Q E hr h => ?_)
 · obtain ⟨x, rfl, _⟩ := h
   rfl
 obtain ⟨x, rfl, ⟨⟨th, _⟩, hx⟩, q⟩ := h
 refine ⟨_, (zC (yB (PW.pt (xJ (yM (yA (zR yO (by rfl) T.aJ Bt.isinstance (zA (pv 0) (zA (xO (v := .ty "str") rfl T.oF Bt.str rfl) zB))))) (xC (zQ pY (pv 0) (xL rfl T.Hd) (by rfl))))) (zF (zG xK)) zO)
     (zF (zG (tD (MN xY xY zE (zR xS (by rfl) T.jy PySem.boot_len (zA (pv 0) zB)) (xL rfl T.uh)) (wA (zR (yd rfl) (by rfl) T.RW Bt.all (zA (xU (yQ (x := "sign") (M := ["thing"]) rfl (by rfl)) rfl (Ay (pv 0)) (fun _ _ _ _ => (xF Av (pv 0) (xL rfl T.Kd) (by rfl)))) zB))))))), ?_⟩
 refine ⟨_, rfl, _, _, _, _, rfl, rfl, th.ty, th.ks, _, rfl, ?_⟩
 cases hb : th.bs with
 | false =>
   refine cQ ?_
   have e : nameV x = false := by cases x <;> first | rfl | (rw [th.ns _ rfl] at hb; cases hb)
   rw [e] at q
   exact q _ (aB.refl _)
 | true =>
   obtain ⟨z, rfl⟩ := th.hs hb
   have hz := (hx z rfl).size
   have q : ∀ H', aB H H' → Q (.bl (nameB z)) H' := q
   have qN := T.Hf H
   refine aM ⟨_, rfl, _, _, rfl, .inr qN, rfl, rfl, _, rfl, ?_⟩
   refine du (fun c => ?_) (fun c => ?_)
   · have e : nameB z = false := by
       unfold nameB
       rw [show inV (.str z) kws = true from c]
       rfl
     rw [e] at q
     exact q _ (aB.refl _)
   have c0 : inV (.str z) kws = false := by
     cases e : inV (.str z) kws with
     | false => rfl
     | true => exact absurd e c
   walk_at "rd"
   refine du (fun c1 => ?_) (fun c1 => ?_)
   · walk_at "rd"
     refine du (fun c2 => ?_) (fun c2 => ?_)
     · walk_at "rd"
       refine p6 hz (fun i ys H' => H = H' ∧ ys = ((cd z).take i).map fun c => V.bl (Mw c)) ⟨rfl, rfl⟩ (fun i c ys H' hc hl hw => ?_) (fun ys H' hl hw p hp => ?_)
       · obtain ⟨rfl, rfl⟩ := hw
         walk_at "rd"
         rw [List.take_succ, hc]
         simp [Mw]
       · obtain ⟨rfl, rfl⟩ := hw
         have e : (cd z).take z.length = cd z := List.take_of_length_le (by rw [yD]; exact Nat.le_refl _)
         rw [e]
         refine ⟨p, (cd z).map Mw, rfl, bz.of (by rw [zD, List.map_map]; rfl), ?_⟩
         have e2 : nameB z = ((cd z).map Mw).all id := by
           unfold nameB
           rw [c0, c1, c2, List.all_map]
           rfl
         rw [e2] at q
         exact q _ (zK hp _)
     · have e : nameB z = false := by
         unfold nameB
         rw [show decide ((z.length : Int) ≤ 12) = false from Bool.eq_false_iff.mpr c2]
         simp
       rw [e] at q
       exact q _ (aB.refl _)
   · have e : nameB z = false := by
       unfold nameB
       rw [show decide ((1 : Int) ≤ z.length) = false from Bool.eq_false_iff.mpr c1]
       simp
     rw [e] at q
     refine ⟨_, rfl, aM ?_⟩
     exact q _ (aB.refl _)
end
end fX.Y
set_option maxHeartbeats 4000000
namespace fX.Y
open PySem L2
seal PE PT PW PA PS jG PG tE PI PO iV ir uT bL iW qU sy PC wD
local macro_rules | `(tactic| walk_at "rd1") => `(tactic| first
 | (refine And.intro rfl ?_)
 | (refine And.intro (by assumption) ?_)
 | (refine And.intro (fun _ e => e) ?_)
 | (refine And.intro (au.str _) ?_) | (refine And.intro (au.int _) ?_) | (refine And.intro (au.bl _) ?_) | (refine And.intro au.non ?_)
 | (refine cQ ?_) | (refine aM ?_)
 | (apply Exists.intro))
local macro_rules | `(tactic| walk_at "rd") => `(tactic| repeat (walk_at "rd1"))
theorem Mh {c : Nat} (h : Mw c = true) : 97 ≤ c ∧ c ≤ 122 := by
 have e0 : Mw c = decide (c ∈ ("abcdefghijklmnopqrstuvwxyz" : Str).cps.toList) := StrLaws.found_one "abcdefghijklmnopqrstuvwxyz" c
 have e : ("abcdefghijklmnopqrstuvwxyz" : Str).cps.toList = (List.range 26).map (97 + ·) := by symm
 rw [e0, e, decide_eq_true_iff] at h
 obtain ⟨k, hk, rfl⟩ := List.mem_map.mp h
 have := List.mem_range.mp hk
 omega
theorem abr {c : Nat} (h : 97 ≤ c ∧ c ≤ 122) : Mw c = true := by
 have e0 : Mw c = decide (c ∈ ("abcdefghijklmnopqrstuvwxyz" : Str).cps.toList) := StrLaws.found_one "abcdefghijklmnopqrstuvwxyz" c
 have e : ("abcdefghijklmnopqrstuvwxyz" : Str).cps.toList = (List.range 26).map (97 + ·) := by symm
 rw [e0, e]
 refine decide_eq_true (List.mem_map.mpr ⟨c - 97, List.mem_range.mpr (by omega), by omega⟩)
theorem dO {z : Str} (h : nameB z = true) : z.length ≤ 12 ∧ 1 ≤ z.length ∧ ∀ c ∈ cd z, 97 ≤ c ∧ c ≤ 122 := by
 unfold nameB at h
 simp only [Bool.and_eq_true, decide_eq_true_iff] at h
 obtain ⟨⟨⟨_, h1⟩, h2⟩, h3⟩ := h
 exact ⟨by omega, by omega, fun c hc => Mh (List.all_eq_true.mp h3 c hc)⟩
theorem qI {z : Str} (h : nameB z = true) : bN 12 z := ⟨(dO h).1, fun c hc => by have := (dO h).2.2 c hc; omega⟩
theorem HW {α β : Type} {R : α → β → Prop} {as as' : List α} {bs bs' : List β} (h : Paired R as bs) (k : Paired R as' bs') : Paired R (as ++ as') (bs ++ bs') := by
 induction h with
 | nil => exact k
 | cons r _ ih => exact .cons r ih
theorem vp {t u : TS} {D : Ends} {σ : St} {H : Hp} (R : St → Hp → Prop) (hk : ∀ σ' H', R σ' H' → u D σ' H') (hm : (∀ σ' H', R σ' H' → u D σ' H') → t { D with nx := u D } σ H) : U0 t u D σ H := hm hk
abbrev KW : List Str := ["and", "each", "end", "is", "not", "or", "unless", "when"]
theorem uF (z : Str) (ws : List Str) : inV (.str z) (ws.map V.str) = decide (z ∈ ws) := by
 unfold inV
 rw [List.any_map, Bool.eq_iff_iff, List.any_eq_true, decide_eq_true_iff]
 constructor
 · rintro ⟨y, hy, e⟩
   have : y = z := eq_of_beq e
   rw [← this]; exact hy
 · intro h; exact ⟨z, h, by show (z == z) = true; exact beq_self_eq_true z⟩
theorem Sd {l : List Nat} (h : l.length ≤ 12 ∧ 1 ≤ l.length ∧ ∀ c ∈ l, 97 ≤ c ∧ c ≤ 122) (k : S l ∉ KW) : nameB (S l) = true := by
 unfold nameB
 have e1 : inV (.str (S l)) kws = false := by
   show inV (.str (S l)) (KW.map V.str) = false
   rw [uF]; exact decide_eq_false k
 have e2 : l.all Mw = true := List.all_eq_true.mpr fun c hc => abr (h.2.2 c hc)
 rw [e1, zW, dq, e2, decide_eq_true (by omega), decide_eq_true (by omega)]
 rfl
theorem aeD : ∀ z ∈ KW, nameB (z ++ ‹"x"›) = true := by symm
theorem W5 : ∀ z ∈ KW, z.length ≤ 6 := by symm
theorem abt (i : Int) (h0 : 0 ≤ i) (h1 : i < 26) : ∃ c, wB ("abcdefghijklmnopqrstuvwxyz" : Str).cps.toList i = some c ∧ 97 ≤ c ∧ c ≤ 122 := by
 have key : ∀ k : Nat, k < 26 → ("abcdefghijklmnopqrstuvwxyz" : Str).cps.toList[k]? = some (97 + k) := by symm
 refine ⟨97 + i.toNat, ?_, by omega, by omega⟩
 have := yG (key i.toNat (by omega))
 rw [show ((i.toNat : Nat) : Int) = i by omega] at this
 exact this
theorem ibc {x : Int} (h : x.natAbs < 2 ^ 256) : ib x ≤ 60000000 := Nat.le_trans (Vw (m := 256) h) (by decide)
theorem Y9 {σ : St} {H : Hp} {a b : Hp → Prop} (h : a H) : ZL σ H (fun c H3 => if c = true then a H3 else b H3) := by
 show if true = true then a H else b H
 rw [if_pos rfl]; exact h
def Za : Sp := fun vs H Q _ => ∃ c k : Int, vs = [.int c, .int k] ∧ 0 ≤ k ∧ k < 100 ∧ ∀ r : Int, 0 ≤ r → r < 2147483587 → Q (.int r) H
def abu : Sp := fun vs H Q _ => ∃ l : List Nat, vs = [.str (S l)] ∧ l.length ≤ 12 ∧ 1 ≤ l.length ∧ (∀ c ∈ l, 97 ≤ c ∧ c ≤ 122) ∧ ∀ z H', nameB z = true → aB H H' → Q (.str z) H'
def abv : Sp := fun vs H Q _ => ∃ c : Int, vs = [.int c] ∧ ∀ z H', nameB z = true → aB H H' → Q (.str z) H'
def W6 : Sp := fun vs H Q _ => ∃ n : Int, vs = [.int n] ∧ n.natAbs < 2 ^ 64 ∧ ∀ m : Int, -(10 ^ 59) ≤ m → m < 10 ^ 59 → Q (.int m) H
def abw (K : W.Frag) : Sp := fun vs H Q _ => ∃ (a : Addr) (ns : List Int) (k : Int), vs = [.ref a, .int k] ∧ bz K H a (ns.map V.int) ∧ 0 ≤ k ∧ (∀ n ∈ ns, ib n ≤ 1048576) ∧ ∀ n : Int, ib n ≤ 1048576 → Q (.int n) H
section
variable {P : Program} {w : World} {K : W.Frag} {mg : Str → Option Value} {base : Heap} {A : dW}
theorem HX (T : Txt K mg A) : aF P w K mg base cD 1 A.kj A.pM ["_law_script", "_law_k"] (abw K) := by
 refine T.Je.ok Hx (fun vs H Q E h => ?_) (fun cdv A0 outer s H vs Q E hr h => ?_)
 · obtain ⟨a, ns, k, rfl, _⟩ := h
   rfl
 obtain ⟨a, ns, k, rfl, hS, hk, hb, q⟩ := h
 refine ⟨_, (zC (yB (zQ MK (pv 1) (zR yI (by rfl) T.jy PySem.boot_len (zA (pv 0) zB)) (zS _)) (zF (zG (yC zU (pv 0) (pv 1) (fun _ _ => rfl)))) zO)
     (zF (zG zE))), ?_⟩
 refine ⟨_, rfl, _, rfl, a, _, rfl, .inl hS, _, _, rfl, rfl, _, rfl, ?_⟩
 refine du (fun c => ?_) (fun c => ?_)
 · have c' : k < ((ns.map V.int).length : Nat) := of_decide_eq_true c
   obtain ⟨v, hv, hv2⟩ := Yh (l := ns.map V.int) hk c'
   obtain ⟨n, hn, rfl⟩ := qX hv2
   exact ⟨_, rfl, _, rfl, a, _, _, _, rfl, rfl, hS, hv, q _ (hb n (List.mem_of_getElem? hn))⟩
 · exact q _ (by decide)
theorem Uo {x : Int} (h0 : 0 ≤ x) (h : x < 2 ^ 63) : ib x ≤ 60000000 := Nat.le_trans (Vv (by omega) (by omega)) (by decide)
theorem mZ (T : Txt K mg A) : aF P w K mg base cD 1 A.oY A.tU ["_law_cell", "_law_k"] Za := by
 refine T.Oo.ok Ah (fun vs H Q E h => ?_) (fun cdv A0 outer s H vs Q E hr h => ?_)
 · obtain ⟨c, k, rfl, _⟩ := h
   rfl
 obtain ⟨c, k, rfl, k0, k1, q⟩ := h
 refine ⟨_, (zC (zY (i := 2) Ah.nd rfl (by first | exact Or.inl rfl | exact Or.inr rfl) (zL yP (zL ye (zL qR (zL yP (pv 0) zE) zE) (zL qR zE (zL ye zE (pv 1)))) zE))
     (zF (zG (zL yP (zL ye (pv 2) (pv 2)) zE)))), ?_⟩
 have a0 := Int.emod_nonneg c (b := 2147483647) (by decide)
 have a1 := Int.emod_lt_of_pos c (b := 2147483647) (by decide)
 refine ⟨_, rfl, _, _, rfl, rfl, (by show (0 : Int) < 2147483647; decide), _, _, rfl, rfl, _, rfl, _, _, rfl, rfl, ⟨Uo (by decide) (by decide), Uo k0 (by omega)⟩, _, _, rfl, rfl, _, _, rfl, rfl, ⟨Uo (by show (0 : Int) ≤ c % 2147483647 + 7; omega) (by show c % 2147483647 + 7 < 2 ^ 63; omega), Uo (by show (0 : Int) ≤ 48271 + 2 * k; omega) (by show 48271 + 2 * k < 2 ^ 63; omega)⟩, _, _, rfl, rfl, (by show (0 : Int) < 2147483629; decide), ?_⟩
 have b0 := Int.emod_nonneg ((c % 2147483647 + 7) * (48271 + 2 * k)) (b := 2147483629) (by decide)
 have b1 := Int.emod_lt_of_pos ((c % 2147483647 + 7) * (48271 + 2 * k)) (b := 2147483629) (by decide)
 refine ⟨_, rfl, _, rfl, _, _, rfl, rfl, ⟨Uo b0 (by omega), Uo b0 (by omega)⟩, _, _, rfl, rfl, (by show (0 : Int) < 2147483587; decide), q _ (Int.emod_nonneg _ (by decide)) (Int.emod_lt_of_pos _ (by decide))⟩
theorem Pg (T : Txt K mg A) : aF P w K mg base cD 1 A.ou A.rA ["_law_word"] abu := by
 refine T.Ha.ok CT (fun vs H Q E h => ?_) (fun cdv A0 outer s H vs Q E hr h => ?_)
 · obtain ⟨l, rfl, _⟩ := h
   rfl
 obtain ⟨L, rfl, h1, h2, h3, q⟩ := h
 refine ⟨_, (zC (yB (zQ pY (pv 0) (yZ (zA zJ (zA zJ (zA zJ (zA zJ (zA zJ (zA zJ (zA zJ (zA zJ zB))))))))) (by rfl)) (zF (zG (zL zH (pv 0) zJ))) zO)
     (zF (zG (pv 0)))), ?_⟩
 refine ⟨_, rfl, (by show 8 ≤ sizeLine; decide), fun p2 hp2 => ⟨p2, _, rfl, .inl (bz.of zD), rfl, rfl, _, rfl, ?_⟩⟩
 have sp2 := zK hp2 (.lst (KW.map V.str))
 show if (inV (.str (S L)) (KW.map V.str)) = true then _ else _
 rw [uF]
 refine du (fun c => ?_) (fun c => ?_)
 · have c' : S L ∈ KW := of_decide_eq_true c
   exact ⟨_, rfl, _, _, rfl, rfl, zN (m := 100) (by have := W5 _ c'; rw [show ‹"x"›.length = 1 by symm]; omega), q _ _ (aeD _ c') sp2⟩
 · exact ⟨_, rfl, q _ _ (Sd ⟨h1, h2, h3⟩ fun z => c (decide_eq_true z)) sp2⟩
theorem uH (T : Txt K mg A) : aF P w K mg base cD 2 A.rB A.wH ["_law_cell"] abv := by
 have rW := Pg (P := P) (w := w) (base := base) T
 refine T.QG.ok jh (fun vs H Q E h => ?_) (fun cdv A0 outer s H vs Q E hr h => ?_)
 · obtain ⟨c, rfl, _⟩ := h
   rfl
 obtain ⟨c, rfl, q⟩ := h
 refine ⟨_, (zC (zY (i := 1) jh.nd rfl (by first | exact Or.inl rfl | exact Or.inr rfl) (zL yP (zL mH (pv 0) zE) (zL Ar zE zE)))
     (zC (zY (i := 2) jh.nd rfl (by first | exact Or.inl rfl | exact Or.inr rfl) zJ)
     (zC (KQ PassesOwn.never rfl (JK rfl T.RX (zA (zL qR zE (zL yP (pv 0) zE)) zB)) (uR (i := 3) jh.nd rfl (by first | exact Or.inl rfl | exact Or.inr rfl)) (zC (zY (i := 2) jh.nd rfl (by first | exact Or.inl rfl | exact Or.inr rfl) (zL zH (pv 2) (yC Vg zJ (zL yP (pv 1) zE) (fun _ _ => rfl))))
     (zF (zY (i := 1) jh.nd rfl (by first | exact Or.inl rfl | exact Or.inr rfl) (zL mH (pv 1) zE)))))
     (zF (zG (zI rW ‹hr› rfl T.wZ T.wY T.wX .nil zM (zA (pv 2) zB))))))), ?_⟩
 refine ⟨_, rfl, _, _, rfl, rfl, ⟨by decide, by decide⟩, _, _, rfl, rfl, ⟨by decide, by decide, by decide⟩, _, _, rfl, rfl, (by show (0 : Int) < 26 ^ (12 : Int).toNat; decide +kernel), ?_⟩
 have m0 : 0 ≤ c % 12 := Int.emod_nonneg _ (by decide)
 have m1 : c % 12 < 12 := Int.emod_lt_of_pos _ (by decide)
 have e0 : 0 ≤ c / 12 % 26 ^ (12 : Int).toNat := Int.emod_nonneg _ (by symm)
 refine ⟨_, rfl, _, _, rfl, rfl, (by show (0 : Int) < 12; decide), _, _, rfl, rfl, _, rfl, (by show (-2 ^ 62 : Int) ≤ 1 + c % 12; omega), (by show 1 + c % 12 < _; omega), ?_⟩
 obtain ⟨n, hn⟩ : ∃ n : Nat, (1 + c % 12).toNat = n := ⟨_, rfl⟩
 dsimp only
 rw [hn]
 refine Qq (n := n) (fun i σ H' => H = H' ∧ ∃ (u : Int) (l : List Nat) (x : Option V), σ = [some (.int c), some (.int u), some (.str (S l)), x] ∧ 0 ≤ u ∧ l.length = i ∧ ∀ d ∈ l, 97 ≤ d ∧ d ≤ 122) ⟨rfl, c / 12 % 26 ^ (12 : Int).toNat, [], none, rfl, e0, rfl, fun d hd => by cases hd⟩ (fun i σ H' hi hh => ?_) (fun σ H' hh => ?_)
 · obtain ⟨rfl, u, l, x, rfl, hu, hl, hc⟩ := hh
   obtain ⟨d, hd1, hd2⟩ := abt (u % 26) (Int.emod_nonneg _ (by decide)) (Int.emod_lt_of_pos _ (by decide))
   refine ⟨_, rfl, _, rfl, _, _, rfl, rfl, (by show (0 : Int) < 26; decide), _, _, d, rfl, rfl, (by symm), hd1, _, _, rfl, rfl, zN (m := 100) (by rw [zW]; show l.length + 1 ≤ 100; omega), ?_⟩
   refine ⟨_, rfl, _, _, rfl, rfl, ⟨by decide, by decide⟩, rfl, u / 26, l ++ [d], some (.int (0 + (i : Nat))), ?_, Int.ediv_nonneg hu (by decide), (by rw [List.length_append, hl]; rfl), fun e he => ?_⟩
   · rw [← xN]; rfl
   · rcases List.mem_append.mp he with z | z
     · exact hc e z
     · rw [List.mem_singleton.mp z]; exact hd2
 · obtain ⟨rfl, u, l, x, rfl, hu, hl, hc⟩ := hh
   exact ⟨_, rfl, l, rfl, by omega, by omega, hc, q⟩
theorem wu (T : Txt K mg A) : aF P w K mg base cD 1 A.mQ A.rC ["_law_cell"] W6 := by
 refine T.Ld.ok Jv (fun vs H Q E h => ?_) (fun cdv A0 outer s H vs Q E hr h => ?_)
 · obtain ⟨n, rfl, _⟩ := h
   rfl
 obtain ⟨n, rfl, hb, q⟩ := h
 refine ⟨_, (zC (yB (zQ yR (zL yP (pv 0) zE) zE (zS _)) (zF (zG (zL m9 (zL yP (zL mH (pv 0) zE) zE) zE))) zO)
     (zF (zG (zL m9 (zL yP (zL Ar (pv 0) zE) (zL m9 (zL ye zE (zL Ar zE zE)) zE)) (zL Ar zE zE))))), ?_⟩
 refine ⟨_, rfl, _, _, rfl, rfl, (by show (0 : Int) < 3; decide), rfl, _, rfl, du (fun _ => ?_) (fun _ => ?_)⟩
 · have r0 : 0 ≤ n / 3 % 41 := Int.emod_nonneg _ (by decide)
   have r1 : n / 3 % 41 < 41 := Int.emod_lt_of_pos _ (by decide)
   have p60 : (1000 : Int) < 10 ^ 59 := by symm
   exact ⟨_, rfl, _, _, rfl, rfl, ⟨by decide, by decide⟩, _, _, rfl, rfl, (by show (0 : Int) < 41; decide), _, _, rfl, rfl, q _ (by show -(10 ^ 59) ≤ n / 3 % 41 - 20; omega) (by show n / 3 % 41 - 20 < 10 ^ 59; omega)⟩
 · refine ⟨_, rfl, _, _, rfl, rfl, ⟨by decide, by decide, hb⟩, _, _, rfl, rfl, ⟨by decide, by decide, by decide⟩, _, _, rfl, rfl, ⟨by decide, ibc (by symm)⟩, _, _, rfl, rfl, _, _, rfl, rfl, (by show (0 : Int) < 2 * 10 ^ (59 : Int).toNat - 1; decide +kernel), ?_⟩
   have r0 := Int.emod_nonneg (n ^ (7 : Int).toNat) (b := 2 * 10 ^ (59 : Int).toNat - 1) (by symm)
   have r1 := Int.emod_lt_of_pos (n ^ (7 : Int).toNat) (b := 2 * 10 ^ (59 : Int).toNat - 1) (by symm)
   have e : (10 : Int) ^ (59 : Int).toNat = 10 ^ 59 := rfl
   refine ⟨_, _, rfl, rfl, ⟨by decide, by decide, by decide⟩, _, _, rfl, rfl, q _ ?_ ?_⟩
   · show -(10 ^ 59) ≤ n ^ (7 : Int).toNat % (2 * 10 ^ (59 : Int).toNat - 1) - 10 ^ (59 : Int).toNat
     generalize n ^ (7 : Int).toNat % (2 * 10 ^ (59 : Int).toNat - 1) = r at r0 r1
     rw [e] at *
     generalize (10 : Int) ^ 59 = y at *
     omega
   · show n ^ (7 : Int).toNat % (2 * 10 ^ (59 : Int).toNat - 1) - 10 ^ (59 : Int).toNat < 10 ^ 59
     generalize n ^ (7 : Int).toNat % (2 * 10 ^ (59 : Int).toNat - 1) = r at r0 r1
     rw [e] at *
     generalize (10 : Int) ^ 59 = y at *
     omega
theorem n60 {m : Int} (h : -(10 ^ 59) ≤ m) (k : m ≤ 10 ^ 59) : m.natAbs < 10 ^ 60 := by
 have hb : (10 : Int) ^ 59 < ((10 ^ 60 : Nat) : Int) := by symm
 generalize (10 : Int) ^ 59 = y at *
 generalize (10 : Nat) ^ 60 = z at *
 omega
end
end fX.Y
set_option maxHeartbeats 4000000
namespace fX.Y
open PySem L2
seal PE PT PW PA PS jG PG tE PI PO iV ir uT bL iW qU sy PC wD
local macro_rules | `(tactic| walk_at "rd1") => `(tactic| first
 | (refine And.intro rfl ?_)
 | (refine And.intro (by assumption) ?_)
 | (refine And.intro (fun _ e => e) ?_)
 | (refine And.intro (au.str _) ?_) | (refine And.intro (au.int _) ?_) | (refine And.intro (au.bl _) ?_) | (refine And.intro au.non ?_)
 | (refine cQ ?_) | (refine aM ?_)
 | (apply Exists.intro))
local macro_rules | `(tactic| walk_at "rd") => `(tactic| repeat (walk_at "rd1"))
def pIs (zs : List Str) (n : Str) (v : V) : Prop := nameB n = true ∧ ∃ w : Str, v = .str w ∧ nameB w = true
def apF (zs : List Str) (n h : Str) (m : Int) : Prop := nameB n = true ∧ (h = "<" ∨ h = "=" ∨ h = ">") ∧ m.natAbs < 10 ^ 60
inductive Tr where
 | is (n : Str) (v : V)
 | cmp (n h : Str) (m : Int)
 | neg (t : Tr)
 | two (o : Bool) (s t : Tr)
def hw (o : Bool) : Str := if o = true then "or" else "and"
def Tr.depth : Tr → Nat
 | .is _ _ => 1
 | .cmp _ _ _ => 1
 | .neg t => t.depth + 1
 | .two _ s t => 1 + max s.depth t.depth
def Tr.size : Tr → Nat
 | .is _ _ => 1
 | .cmp _ _ _ => 1
 | .neg t => t.size
 | .two _ s t => s.size + t.size
def Tr.Ok (zs : List Str) : Tr → Prop
 | .is n v => pIs zs n v
 | .cmp n h m => apF zs n h m
 | .neg t => t.Ok zs
 | .two _ s t => s.Ok zs ∧ t.Ok zs
theorem Tr.size_pos : ∀ t : Tr, 1 ≤ t.size
 | .is _ _ => Nat.le_refl _
 | .cmp _ _ _ => Nat.le_refl _
 | .neg t => Tr.size_pos t
 | .two _ s t => Nat.le_trans (Tr.size_pos s) (Nat.le_add_right _ _)
end fX.Y
namespace fX.Y
open PySem L2
seal PE PT PW PA PS jG PG tE PI PO iV ir uT bL iW qU sy PC wD
local macro_rules | `(tactic| walk_at "rd1") => `(tactic| first
 | (refine And.intro rfl ?_)
 | (refine And.intro (by assumption) ?_)
 | (refine And.intro (fun _ e => e) ?_)
 | (refine And.intro (au.str _) ?_) | (refine And.intro (au.int _) ?_) | (refine And.intro (au.bl _) ?_) | (refine And.intro au.non ?_)
 | (refine cQ ?_) | (refine aM ?_)
 | (apply Exists.intro))
local macro_rules | `(tactic| walk_at "rd") => `(tactic| repeat (walk_at "rd1"))
theorem eqS {a b : Str} {A B : Prop} (h : a = b) (k : A) : if decide (V.str a = V.str b) = true then A else B := by rw [if_pos (decide_eq_true (by rw [h]))]; exact k
theorem neS {a b : Str} {A B : Prop} (h : a ≠ b) (k : B) : if decide (V.str a = V.str b) = true then A else B := by
 rw [if_neg (fun e => h (V.str.inj (of_decide_eq_true e)))]; exact k
def cT (A : dW) (o : Bool) : Addr := if o = true then A.eE else A.jt
def m8 (A : dW) (H : Hp) : Tr → V → Prop
 | .is n v, x => ∃ a dx, x = .ref a ∧ H a = some (.ins A.vA dx [("name", .str n), ("word", v), ("place", .non)])
 | .cmp n h m, x => ∃ a dx, x = .ref a ∧ H a = some (.ins A.cP dx [("name", .str n), ("how", .str h), ("number", .int m)])
 | .neg t, x => ∃ a dx y, x = .ref a ∧ H a = some (.ins A.oA dx [("test", y)]) ∧ m8 A H t y
 | .two o s t, x => ∃ a dx y z, x = .ref a ∧ H a = some (.ins (cT A o) dx [("one", y), ("other", z)]) ∧ m8 A H s y ∧ m8 A H t z
theorem m8.kt {A : dW} {H H' : Hp} (s : ∀ b C dx fs, H b = some (.ins C dx fs) → C ≠ A.az → H' b = some (.ins C dx fs)) (T : A.vA ≠ A.az ∧ A.cP ≠ A.az ∧ A.oA ≠ A.az ∧ A.jt ≠ A.az ∧ A.eE ≠ A.az) : ∀ {t : Tr} {x : V}, m8 A H t x → m8 A H' t x
 | .is _ _, _, ⟨a, dx, e, h⟩ => ⟨a, dx, e, s _ _ _ _ h T.1⟩
 | .cmp _ _ _, _, ⟨a, dx, e, h⟩ => ⟨a, dx, e, s _ _ _ _ h T.2.1⟩
 | .neg _, _, ⟨a, dx, y, e, h, k⟩ => ⟨a, dx, y, e, s _ _ _ _ h T.2.2.1, m8.kt s T k⟩
 | .two o _ _, _, ⟨a, dx, y, z, e, h, k, l⟩ => ⟨a, dx, y, z, e, s _ _ _ _ h (by cases o; exact T.2.2.2.1; exact T.2.2.2.2), m8.kt s T k, m8.kt s T l⟩
theorem m8.same {A : dW} {H H' : Hp} (s : aB H H') : ∀ {t : Tr} {x : V}, m8 A H t x → m8 A H' t x
 | .is _ _, _, ⟨a, dx, e, h⟩ => ⟨a, dx, e, s _ _ h⟩
 | .cmp _ _ _, _, ⟨a, dx, e, h⟩ => ⟨a, dx, e, s _ _ h⟩
 | .neg _, _, ⟨a, dx, y, e, h, k⟩ => ⟨a, dx, y, e, s _ _ h, m8.same s k⟩
 | .two o _ _, _, ⟨a, dx, y, z, e, h, k, l⟩ => ⟨a, dx, y, z, e, s _ _ h, m8.same s k, m8.same s l⟩
theorem m8.lst {A : dW} {H : Hp} {p : Addr} {xs : List V} {o : HO} (hp : H p = some (.lst xs)) : ∀ {t : Tr} {x : V}, m8 A H t x → m8 A (upd H p o) t x := by
 have k : ∀ {b C dx fs}, H b = some (.ins C dx fs) → upd H p o b = some (.ins C dx fs) := fun {b C dx fs} e => by
   rw [zP (by rintro rfl; rw [hp] at e; cases e)]; exact e
 intro t
 induction t with
 | is n v => rintro x ⟨a, dx, e, h⟩; exact ⟨a, dx, e, k h⟩
 | cmp n h m => rintro x ⟨a, dx, e, h⟩; exact ⟨a, dx, e, k h⟩
 | neg t ih => rintro x ⟨a, dx, y, e, h, j⟩; exact ⟨a, dx, y, e, k h, ih j⟩
 | two o s t ih1 ih2 => rintro x ⟨a, dx, y, z, e, h, j, l⟩; exact ⟨a, dx, y, z, e, k h, ih1 j, ih2 l⟩
def NW (A : dW) : Prop := A.vA ≠ A.az ∧ A.cP ≠ A.az ∧ A.oA ≠ A.az ∧ A.jt ≠ A.az ∧ A.eE ≠ A.az
theorem nw {K : W.Frag} {mg : Str → Option Value} {A : dW} (T : Txt K mg A) : NW A := by
 have key : ∀ {a b : Addr}, W.kitOne K (.ref a) (.ref a) = some true → W.kitOne K (.ref a) (.ref b) = some false → a ≠ b := fun {a b} h1 h2 e => by
   rw [← e, h1] at h2; cases h2
 exact ⟨key T.Wl T.DX, key T.xf T.uo, key T.QX T.Bu, key T.Lp T.zu, key T.Bv T.vD⟩
theorem m8.sb {A : dW} {H H' : Hp} {lw dx : Addr} {fs : List (Str × V)} (n : NW A) (sb : jf lw H H') (hl : H lw = some (.ins A.az dx fs)) {t : Tr} {x : V} (h : m8 A H t x) : m8 A H' t x :=
 m8.kt (fun b C dx fs e m => sb _ _ (by rintro rfl; rw [hl] at e; cases e; exact m rfl) e) n h
def aeG (A : dW) : Sp := fun vs H Q _ => ∃ p dx u1 u2 u3, vs = [.ref p, u1, u2, u3] ∧ H p = some (.ins A.vA dx []) ∧ Q .non (upd H p (.ins A.vA dx [("name", u1), ("word", u2), ("place", u3)]))
def aeH (A : dW) : Sp := fun vs H Q _ => ∃ p dx u1 u2 u3, vs = [.ref p, u1, u2, u3] ∧ H p = some (.ins A.cP dx []) ∧ Q .non (upd H p (.ins A.cP dx [("name", u1), ("how", u2), ("number", u3)]))
def aeI (A : dW) : Sp := fun vs H Q _ => ∃ p dx u1, vs = [.ref p, u1] ∧ H p = some (.ins A.oA dx []) ∧ Q .non (upd H p (.ins A.oA dx [("test", u1)]))
def aeJ (A : dW) : Sp := fun vs H Q _ => ∃ p dx u1 u2 o, vs = [.ref p, u1, u2] ∧ H p = some (.ins (cT A o) dx []) ∧ Q .non (upd H p (.ins (cT A o) dx [("one", u1), ("other", u2)]))
section
variable {P : Program} {w : World} {K : W.Frag} {mg : Str → Option Value} {base : Heap} {A : dW}
theorem Ra (T : Txt K mg A) : aF P w K mg base cD 1 A.pJ A.pK ["self", "name", "word", "place"] (aeG A) := by
 refine T.Iw.ok Hu (fun vs H Q E h => ?_) (fun cdv A0 outer s H vs Q E hr h => ?_)
 · obtain ⟨p, dx, u1, u2, u3, rfl, _⟩ := h
   rfl
 obtain ⟨p, dx, u1, u2, u3, rfl, hp, q⟩ := h
 refine ⟨_, (zC (yN (pv 0) (pv 1) rfl)
     (zC (yN (pv 0) (pv 2) rfl)
     (zF (yN (pv 0) (pv 3) rfl)))), ?_⟩
 refine ⟨_, rfl, _, rfl, p, _, dx, _, rfl, hp, T.Hi, T.Hj, by decide, ?_⟩
 refine ⟨_, rfl, _, rfl, p, _, dx, _, rfl, zD, T.Hi, T.Hk, (by show 1 < 1000; decide), ?_⟩
 refine ⟨_, rfl, _, rfl, p, _, dx, _, rfl, zD, T.Hi, T.OD, (by show 2 < 1000; decide), ?_⟩
 rw [yH, yH]
 exact q
theorem Rb (T : Txt K mg A) : aF P w K mg base cD 1 A.jc A.jd ["self", "name", "how", "number"] (aeH A) := by
 refine T.wR.ok vH (fun vs H Q E h => ?_) (fun cdv A0 outer s H vs Q E hr h => ?_)
 · obtain ⟨p, dx, u1, u2, u3, rfl, _⟩ := h
   rfl
 obtain ⟨p, dx, u1, u2, u3, rfl, hp, q⟩ := h
 refine ⟨_, (zC (yN (pv 0) (pv 1) rfl)
     (zC (yN (pv 0) (pv 2) rfl)
     (zF (yN (pv 0) (pv 3) rfl)))), ?_⟩
 refine ⟨_, rfl, _, rfl, p, _, dx, _, rfl, hp, T.gM, T.sU, by decide, ?_⟩
 refine ⟨_, rfl, _, rfl, p, _, dx, _, rfl, zD, T.gM, T.uq, (by show 1 < 1000; decide), ?_⟩
 refine ⟨_, rfl, _, rfl, p, _, dx, _, rfl, zD, T.gM, T.o7, (by show 2 < 1000; decide), ?_⟩
 rw [yH, yH]
 exact q
theorem HY (T : Txt K mg A) : aF P w K mg base cD 1 A.n8 A.oh ["self", "test"] (aeI A) := by
 refine T.G6.ok Em (fun vs H Q E h => ?_) (fun cdv A0 outer s H vs Q E hr h => ?_)
 · obtain ⟨p, dx, u1, rfl, _⟩ := h
   rfl
 obtain ⟨p, dx, u1, rfl, hp, q⟩ := h
 refine ⟨_, (zF (yN (pv 0) (pv 1) rfl)), ?_⟩
 exact ⟨_, rfl, _, rfl, p, _, dx, _, rfl, hp, T.Hl, T.ur, by decide, q⟩
theorem Rc (T : Txt K mg A) : aF P w K mg base cD 1 A.iR A.lU ["self", "one", "other"] (aeJ A) := by
 refine T.DW.ok BL (fun vs H Q E h => ?_) (fun cdv A0 outer s H vs Q E hr h => ?_)
 · obtain ⟨p, dx, u1, u2, o, rfl, _⟩ := h
   rfl
 obtain ⟨p, dx, u1, u2, o, rfl, hp, q⟩ := h
 refine ⟨_, (zC (yN (pv 0) (pv 1) rfl)
     (zF (yN (pv 0) (pv 2) rfl))), ?_⟩
 have cl : uU K (cT A o) ∧ aD K (cT A o) "one" ∧ aD K (cT A o) "other" := by
   cases o
   · exact ⟨T.vm, T.uv, T.pO⟩
   · exact ⟨T.m6, T.pP, T.lV⟩
 refine ⟨_, rfl, _, rfl, p, _, dx, _, rfl, hp, cl.1, cl.2.1, by decide, ?_⟩
 refine ⟨_, rfl, _, rfl, p, _, dx, _, rfl, zD, cl.1, cl.2.2, (by show 1 < 1000; decide), ?_⟩
 rw [yH]
 exact q
theorem yK {H : Hp} {x dx : Addr} (nx : H x = none) (nd : H dx = none) (o : HO) : aB H (upd (upd H dx (.own x)) x o) := fun b u e => by
 rw [zP (zV e nx), zP (zV e nd)]; exact e
end
end fX.Y
set_option maxHeartbeats 4000000
namespace fX.Y
open PySem L2
seal PE PT PW PA PS jG PG tE PI PO iV ir uT bL iW qU sy PC wD
local macro_rules | `(tactic| walk_at "rd1") => `(tactic| first
 | (refine And.intro rfl ?_)
 | (refine And.intro (by assumption) ?_)
 | (refine And.intro (fun _ e => e) ?_)
 | (refine And.intro (au.str _) ?_) | (refine And.intro (au.int _) ?_) | (refine And.intro (au.bl _) ?_) | (refine And.intro au.non ?_)
 | (refine cQ ?_) | (refine aM ?_)
 | (apply Exists.intro))
local macro_rules | `(tactic| walk_at "rd") => `(tactic| repeat (walk_at "rd1"))
def sv : V → Str
 | .str z => z
 | _ => ""
def wL : Tr → List (List Nat)
 | .is n v => [cd n, cd ‹"is"›, cd (sv v)]
 | .cmp n h m => [cd n, cd h, cj m]
 | .neg t => cd ‹"not"› :: wL t
 | .two o s t => cd ‹"("› :: (wL s ++ (cd (hw o) :: (wL t ++ [cd ‹")"›])))
def pA (t : Tr) : List Nat := aR [32] (wL t)
theorem Sg : ∀ t : Tr, wL t ≠ []
 | .is _ _ => by intro e; cases e
 | .cmp _ _ _ => by intro e; cases e
 | .neg _ => by intro e; cases e
 | .two _ _ _ => by intro e; cases e
theorem xE {s a : List Nat} {r : List (List Nat)} (h : r ≠ []) : aR s (a :: r) = a ++ s ++ aR s r := by
 cases r with
 | nil => exact absurd rfl h
 | cons b r => rfl
theorem Cd {s : List Nat} : ∀ {a b : List (List Nat)}, a ≠ [] → b ≠ [] → aR s (a ++ b) = aR s a ++ s ++ aR s b
 | [], _, h, _ => absurd rfl h
 | [x], b, _, hb => by rw [List.singleton_append, xE hb]; rfl
 | x :: y :: r, b, _, hb => by
   rw [List.cons_append, xE (by simp), Cd (a := y :: r) (by simp) hb, xE (a := x) (by simp)]
   simp [List.append_assoc]
theorem Sh (t : Tr) : pA (.neg t) = cd ‹"not "› ++ pA t := by
 unfold pA
 rw [show wL (.neg t) = cd ‹"not"› :: wL t from rfl, xE (Sg t)]
 rfl
theorem Fj (o : Bool) (s t : Tr) : pA (.two o s t) = ((((cd ‹"( "› ++ pA s) ++ cd ‹" "›) ++ cd (hw o)) ++ cd ‹" "›) ++ pA t ++ cd ‹" )"› := by
 unfold pA
 rw [show wL (.two o s t) = cd ‹"("› :: (wL s ++ (cd (hw o) :: (wL t ++ [cd ‹")"›]))) from rfl, xE (by simp), Cd (Sg s) (by simp), xE (by simp), Cd (Sg t) (by simp)]
 have e1 : cd ‹"( "› = cd ‹"("› ++ [32] := by symm
 have e2 : cd ‹" "› = [32] := by symm
 have e3 : cd ‹" )"› = [32] ++ cd ‹")"› := by symm
 rw [e1, e2, e3]
 show _ ++ [32] ++ (_ ++ [32] ++ (_ ++ [32] ++ (_ ++ [32] ++ cd ‹")"›))) = _
 simp [List.append_assoc]
theorem W7 (n : Str) (v : V) : pA (.is n v) = cd n ++ cd ‹" is "› ++ cd (sv v) := by
 show cd n ++ [32] ++ (cd ‹"is"› ++ [32] ++ cd (sv v)) = _
 rw [show cd ‹" is "› = [32] ++ cd ‹"is"› ++ [32] by symm]
 simp [List.append_assoc]
theorem Mi (n h : Str) (m : Int) : pA (.cmp n h m) = cd n ++ cd ‹" "› ++ cd h ++ cd ‹" "› ++ cj m := by
 show cd n ++ [32] ++ (cd h ++ [32] ++ cj m) = _
 rw [show cd ‹" "› = [32] by symm]
 simp [List.append_assoc]
theorem Rf {h : Str} (hh : h = "<" ∨ h = "=" ∨ h = ">") : (cd h).length = 1 ∧ 32 ∉ cd h := by
 rcases hh with rfl | rfl | rfl <;> exact ⟨by symm, by symm⟩
theorem Z7 (o : Bool) : (cd (hw o)).length ≤ 3 ∧ 32 ∉ cd (hw o) := by cases o <;> exact ⟨by symm, by symm⟩
theorem lD {m : Int} (h : m.natAbs < 10 ^ 60) : (cj m).length ≤ 61 := by
 have := uW (k := 60) (by decide) h
 unfold cj
 split
 · rw [List.length_cons]; omega
 · omega
theorem rY {zs : List Str} : ∀ {t : Tr}, t.Ok zs → (pA t).length ≤ 100 * (t.size * t.depth)
 | .is n v, h => by
   obtain ⟨h1, w, rfl, h2⟩ := h
   have a := (dO h1).1
   have b := (dO h2).1
   rw [yD] at a b
   rw [W7, List.length_append, List.length_append]
   show (cd n).length + 4 + (cd w).length ≤ 100
   omega
 | .cmp n x m, h => by
   obtain ⟨h1, h2, h3⟩ := h
   have a := (dO h1).1
   rw [yD] at a
   have b := (Rf h2).1
   have c := lD h3
   rw [Mi, List.length_append, List.length_append, List.length_append, List.length_append]
   show (cd n).length + 1 + (cd x).length + 1 + (cj m).length ≤ 100
   omega
 | .neg t, h => by
   have ih := rY (t := t) h
   rw [Sh, List.length_append]
   show 4 + (pA t).length ≤ 100 * (t.size * (t.depth + 1))
   have := t.size_pos
   rw [Nat.mul_add]; omega
 | .two o s t, h => by
   have i1 := rY h.1
   have i2 := rY h.2
   rw [Fj, List.length_append, List.length_append, List.length_append, List.length_append, List.length_append, List.length_append]
   have e := (Z7 o).1
   show 2 + (pA s).length + 1 + (cd (hw o)).length + 1 + (pA t).length + 2 ≤ 100 * ((s.size + t.size) * (1 + max s.depth t.depth))
   have p1 := s.size_pos
   have p2 : s.size * s.depth ≤ s.size * max s.depth t.depth := Nat.mul_le_mul_left _ (Nat.le_max_left _ _)
   have p3 : t.size * t.depth ≤ t.size * max s.depth t.depth := Nat.mul_le_mul_left _ (Nat.le_max_right _ _)
   rw [Nat.mul_add, Nat.mul_one, Nat.add_mul]
   omega
theorem m7 : ∀ {ws : List (List Nat)}, ws ≠ [] → ws.length ≤ (aR [32] ws).length + 1
 | [], h => absurd rfl h
 | [x], _ => by show 1 ≤ _; omega
 | x :: y :: r, _ => by
   have ih := m7 (ws := y :: r) (by simp)
   rw [xE (by simp), List.length_append, List.length_append, List.length_cons]
   show _ ≤ x.length + 1 + _ + 1
   omega
theorem Up {o : Bool} {s t : Tr} (h : (Tr.two o s t).size * (Tr.two o s t).depth ≤ 1000) : s.size * s.depth ≤ 1000 ∧ t.size * t.depth ≤ 1000 := by
 have h' : (s.size + t.size) * (1 + max s.depth t.depth) ≤ 1000 := h
 have a : s.size * s.depth ≤ (s.size + t.size) * (1 + max s.depth t.depth) := Nat.mul_le_mul (Nat.le_add_right _ _) (by omega)
 have b : t.size * t.depth ≤ (s.size + t.size) * (1 + max s.depth t.depth) := Nat.mul_le_mul (Nat.le_add_left _ _) (by omega)
 omega
theorem Uq {t : Tr} (h : (Tr.neg t).size * (Tr.neg t).depth ≤ 1000) : t.size * t.depth ≤ 1000 := by
 have h' : t.size * (t.depth + 1) ≤ 1000 := h
 have : t.size * t.depth ≤ t.size * (t.depth + 1) := Nat.mul_le_mul_left _ (by omega)
 omega
end fX.Y
set_option maxHeartbeats 4000000
namespace fX.Y
open PySem L2
seal PE PT PW PA PS jG PG tE PI PO iV ir uT bL iW qU sy PC wD
local macro_rules | `(tactic| walk_at "rd1") => `(tactic| first
 | (refine And.intro rfl ?_)
 | (refine And.intro (by assumption) ?_)
 | (refine And.intro (fun _ e => e) ?_)
 | (refine And.intro (au.str _) ?_) | (refine And.intro (au.int _) ?_) | (refine And.intro (au.bl _) ?_) | (refine And.intro au.non ?_)
 | (refine cQ ?_) | (refine aM ?_)
 | (apply Exists.intro))
local macro_rules | `(tactic| walk_at "rd") => `(tactic| repeat (walk_at "rd1"))
theorem zX (x y : Str) : (x ++ y).length = x.length + y.length := by rw [yD, yF, List.length_append, ← yD, ← yD]
theorem xI {n : Nat} (h : n ≤ 200000) : n ≤ sizeLine := Nat.le_trans h (by decide)
theorem Ia {m : Int} (h : m.natAbs < 10 ^ 60) : m.natAbs.log2 < 1920 := by
 by_cases z : m.natAbs = 0
 · rw [z]; decide
 · exact (Nat.log2_lt z).mpr (Nat.lt_of_lt_of_le h (by symm))
def kd : Tr → Nat
 | .is _ _ => 0
 | .cmp _ _ _ => 1
 | .neg _ => 2
 | .two false _ _ => 3
 | .two true _ _ => 4
section
variable {P : Program} {w : World} {K : W.Frag} {mg : Str → Option Value} {base : Heap} {A : dW}
theorem W8 (n w : Str) : (n ++ ‹" is "›) ++ w = S (pA (.is n (.str w))) := yY (by rw [yF, yF, dq, W7]; rfl)
theorem Zb (n h : Str) (m : Int) : (((n ++ ‹" "›) ++ h) ++ ‹" "›) ++ ((toString m : String) : Str) = S (pA (.cmp n h m)) := yY (by rw [yF, yF, yF, yF, dq, Mi, str_is, dq])
theorem Sq (t : Tr) : ‹"not "› ++ S (pA t) = S (pA (.neg t)) := yY (by rw [yF, dq, dq, Sh])
theorem Zc (o : Bool) (s t : Tr) : (((((Str.ofString "( " ++ S (pA s)) ++ ‹" "›) ++ hw o) ++ ‹" "›) ++ S (pA t)) ++ ‹" )"› = S (pA (.two o s t)) := yY (by rw [yF, yF, yF, yF, yF, yF, dq, dq, dq, Fj])
end
def uI (A : dW) (j n : Nat) : Sp := fun vs H Q _ => ∃ (x : V) (t : Tr) (zs : List Str), vs = [x] ∧ m8 A H t x ∧ t.depth < n ∧ kd t = j ∧ t.Ok zs ∧ t.size * t.depth ≤ 1000 ∧ Q (.str (S (pA t))) H
def Rg (A : dW) (n : Nat) : Sp := fun vs H Q _ => ∃ (x : V) (o : Bool) (s t : Tr) (zs : List Str), vs = [x, .str (hw o)] ∧ m8 A H (.two o s t) x ∧ s.depth < n ∧ t.depth < n ∧ (Tr.two o s t).Ok zs ∧ (Tr.two o s t).size * (Tr.two o s t).depth ≤ 1000 ∧ Q (.str (S (pA (.two o s t)))) H
structure Zd (P : Program) (w : World) (K : W.Frag) (mg : Str → Option Value) (base : Heap) (A : dW) (n k : Nat) : Prop where
 a : aF P w K mg base cD k A.jn A.jo ["self"] (uI A 0 n)
 b : aF P w K mg base cD k A.dZ A.d7 ["self"] (uI A 1 n)
 c : aF P w K mg base cD k A.iu A.iw ["self"] (uI A 2 n)
 d : aF P w K mg base cD k A.gC A.gD ["self"] (uI A 3 n)
 e : aF P w K mg base cD k A.fD A.fG ["self"] (uI A 4 n)
section
variable {P : Program} {w : World} {K : W.Frag} {mg : Str → Option Value} {base : Heap} {A : dW}
theorem qJ (T : Txt K mg A) {n k : Nat} (ih : Zd P w K mg base A n k) {t : Tr} {x : V} {H : Hp} (hs : m8 A H t x) :
   ∃ (a C dx : Addr) (fs : List (Str × V)) (M : ym P w K mg base cD k C "shown"), x = .ref a ∧ H a = some (.ins C dx fs) ∧ fs.lookup ‹"shown"› = none ∧ M.nu = [] ∧ M.sp = uI A (kd t) n := by
 cases t with
 | is nm v =>
   obtain ⟨a, dx, rfl, h⟩ := hs
   exact ⟨a, _, dx, _, ⟨A.jn, A.jo, ["self"], uI A 0 n, [], [], T.Hi, T.Ox, ih.a, T.K9, .nil⟩, rfl, h, rfl, rfl, rfl⟩
 | cmp nm h m =>
   obtain ⟨a, dx, rfl, h⟩ := hs
   exact ⟨a, _, dx, _, ⟨A.dZ, A.d7, ["self"], uI A 1 n, [], [], T.gM, T.Bw, ih.b, T.zg, .nil⟩, rfl, h, rfl, rfl, rfl⟩
 | neg t =>
   obtain ⟨a, dx, y, rfl, h, _⟩ := hs
   exact ⟨a, _, dx, _, ⟨A.iu, A.iw, ["self"], uI A 2 n, [], [], T.Hl, T.Lw, ih.c, T.IK, .nil⟩, rfl, h, rfl, rfl, rfl⟩
 | two o s t =>
   obtain ⟨a, dx, y, z, rfl, h, _⟩ := hs
   cases o with
   | false => exact ⟨a, _, dx, _, ⟨A.gC, A.gD, ["self"], uI A 3 n, [], [], T.vm, T.Jj, ih.d, T.G9, .nil⟩, rfl, h, rfl, rfl, rfl⟩
   | true => exact ⟨a, _, dx, _, ⟨A.fD, A.fG, ["self"], uI A 4 n, [], [], T.m6, T.DY, ih.e, T.Bq, .nil⟩, rfl, h, rfl, rfl, rfl⟩
theorem Ph (T : Txt K mg A) {n k : Nat} (ih : aF P w K mg base cD k A.aQ A.bx ["self", "word"] (Rg A n)) {o : Bool} {s t : Tr} {x : V} {H : Hp} (hs : m8 A H (.two o s t) x) :
   ∃ (a C dx : Addr) (fs : List (Str × V)) (M : ym P w K mg base cD k C "shown_with"), x = .ref a ∧ H a = some (.ins C dx fs) ∧ fs.lookup ‹"shown_with"› = none ∧ M.nu = [] ∧ M.sp = Rg A n := by
 obtain ⟨a, dx, y, z, rfl, h, _⟩ := hs
 cases o with
 | false => exact ⟨a, _, dx, _, ⟨A.aQ, A.bx, ["self", "word"], Rg A n, [], [], T.vm, T.xg, ih, T.mq, .nil⟩, rfl, h, rfl, rfl, rfl⟩
 | true => exact ⟨a, _, dx, _, ⟨A.aQ, A.bx, ["self", "word"], Rg A n, [], [], T.m6, T.uw, ih, T.mq, .nil⟩, rfl, h, rfl, rfl, rfl⟩
theorem Pj (T : Txt K mg A) {n k : Nat} : aF P w K mg base cD (k + 1) A.jn A.jo ["self"] (uI A 0 n) := by
 refine T.K8.ok Jt (fun vs H Q E h => ?_) (fun cdv A0 outer s H vs Q E hr h => ?_)
 · obtain ⟨x, t, zs, rfl, _⟩ := h
   rfl
 obtain ⟨x, t, zs, rfl, hs, hd, hk, hok, hb, q⟩ := h
 refine ⟨_, (zF (zG (zL zH (zL zH (zZ (pv 0) rfl) zJ) (zZ (pv 0) rfl)))), ?_⟩
 cases t with
 | is nm v =>
   obtain ⟨a, dx, rfl, h⟩ := hs
   obtain ⟨hn, wd, rfl, hwn⟩ := hok
   have l1 := (dO hn).1
   have l2 := (dO hwn).1
   refine ⟨_, rfl, a, _, dx, _, _, rfl, h, T.Hi, T.Hj, rfl, _, _, rfl, rfl, xI (by show nm.length + 4 ≤ _; omega), ?_⟩
   refine ⟨_, rfl, a, _, dx, _, _, rfl, h, T.Hi, T.Hk, rfl, _, _, rfl, rfl, xI (by rw [zX]; show nm.length + 4 + _ ≤ _; omega), ?_⟩
   rw [W8]; exact q
 | cmp _ _ _ => cases hk
 | neg _ => cases hk
 | two o _ _ => cases o <;> cases hk
theorem Pk (T : Txt K mg A) {n k : Nat} : aF P w K mg base cD (k + 1) A.dZ A.d7 ["self"] (uI A 1 n) := by
 refine T.zf.ok xm (fun vs H Q E h => ?_) (fun cdv A0 outer s H vs Q E hr h => ?_)
 · obtain ⟨x, t, zs, rfl, _⟩ := h
   rfl
 obtain ⟨x, t, zs, rfl, hs, hd, hk, hok, hb, q⟩ := h
 refine ⟨_, (zF (zG (zL zH (zL zH (zL zH (zL zH (zZ (pv 0) rfl) zJ) (zZ (pv 0) rfl)) zJ) (yL yT (by rfl) T.oF Bt.str (zA (zZ (pv 0) rfl) zB))))), ?_⟩
 cases t with
 | cmp nm h m =>
   obtain ⟨a, dx, rfl, ho⟩ := hs
   obtain ⟨hn, hh, hm⟩ := hok
   have l1 := (dO hn).1
   have l2 := (Rf hh).1
   rw [← yD] at l2
   have l3 := lD hm
   refine ⟨_, rfl, a, _, dx, _, _, rfl, ho, T.gM, T.sU, rfl, _, _, rfl, rfl, xI (by show nm.length + 1 ≤ _; omega), ?_⟩
   refine ⟨_, rfl, a, _, dx, _, _, rfl, ho, T.gM, T.uq, rfl, _, _, rfl, rfl, xI (by rw [zX]; show nm.length + 1 + _ ≤ _; omega), ?_⟩
   refine ⟨_, _, rfl, rfl, xI (by rw [zX, zX]; show nm.length + 1 + h.length + 1 ≤ _; omega), ?_⟩
   refine ⟨_, rfl, a, _, dx, _, _, rfl, ho, T.gM, T.o7, rfl, _, rfl, Ia hm, _, _, rfl, rfl, xI (by rw [zX, zX, zX, str_is, zW]; show nm.length + 1 + h.length + 1 + _ ≤ _; omega), ?_⟩
   rw [Zb]; exact q
 | is _ _ => cases hk
 | neg _ => cases hk
 | two o _ _ => cases o <;> cases hk
theorem Pn (T : Txt K mg A) {n kr k : Nat} (hle : kr ≤ k) (ih : Zd P w K mg base A n kr) : aF P w K mg base cD (k + 1) A.iu A.iw ["self"] (uI A 2 (n + 1)) := by
 refine T.Iz.ok Hv (fun vs H Q E h => ?_) (fun cdv A0 outer s H vs Q E hr h => ?_)
 · obtain ⟨x, t, zs, rfl, _⟩ := h
   rfl
 obtain ⟨x, t, zs, rfl, hs, hd, hk, hok, hb, q⟩ := h
 refine ⟨_, (zF (zG (zL zH zJ (yE (CX := cD) (k := kr) ‹hr› zM (zZ (pv 0) rfl))))), ?_⟩
 cases t with
 | neg t =>
   obtain ⟨a, dx, y, rfl, h, hs1⟩ := hs
   have hd' : t.depth + 1 < n + 1 := hd
   have l1 := rY (t := t) hok
   have l2 := Uq hb
   obtain ⟨a1, C1, Ib, Ie, M, ey, h1, hl, hdv, hsp⟩ := qJ T ih hs1
   refine ⟨_, rfl, a, _, dx, _, _, rfl, h, T.Hl, T.ur, rfl, a1, C1, Ib, Ie, M, ey, h1, hl, ?_⟩
   dsimp only [qT]
   rw [hdv, hsp]
   refine ⟨y, t, zs, rfl, hs1, by omega, rfl, hok, l2, _, _, rfl, rfl, xI (by rw [zW]; show 4 + _ ≤ _; omega), ?_⟩
   rw [Sq]; exact q
 | is _ _ => cases hk
 | cmp _ _ _ => cases hk
 | two o _ _ => cases o <;> cases hk
theorem Pq (T : Txt K mg A) {n kr : Nat} (ih : Zd P w K mg base A n kr) : aF P w K mg base cD (kr + 1) A.aQ A.bx ["self", "word"] (Rg A n) := by
 refine T.vB.ok uA (fun vs H Q E h => ?_) (fun cdv A0 outer s H vs Q E hr h => ?_)
 · obtain ⟨x, o, s, t, zs, rfl, _⟩ := h
   rfl
 obtain ⟨x, o, t1, t2, zs, rfl, hs, hd1, hd2, hok, hb, q⟩ := h
 refine ⟨_, (zF (zG (zL zH (zL zH (zL zH (zL zH (zL zH (zL zH zJ (yE (CX := cD) (k := kr) ‹hr› zM (zZ (pv 0) rfl))) zJ) (pv 1)) zJ) (yE (CX := cD) (k := kr) ‹hr› zM (zZ (pv 0) rfl))) zJ))), ?_⟩
 have hlen := rY hok
 obtain ⟨p1, p2⟩ := Up hb
 rw [Fj, List.length_append, List.length_append, List.length_append, List.length_append, List.length_append, List.length_append] at hlen
 have hlen : 2 + (pA t1).length + 1 + (cd (hw o)).length + 1 + (pA t2).length + 2 ≤ 100000 := Nat.le_trans hlen (by omega)
 obtain ⟨a, dx, y, z, rfl, h, hs1, hs2⟩ := hs
 have cl : uU K (cT A o) ∧ aD K (cT A o) "one" ∧ aD K (cT A o) "other" := by
   cases o
   · exact ⟨T.vm, T.uv, T.pO⟩
   · exact ⟨T.m6, T.pP, T.lV⟩
 obtain ⟨a1, C1, Ib, Ie, M, ey, h1, hl, hdv, hsp⟩ := qJ T ih hs1
 refine ⟨_, rfl, a, _, dx, _, _, rfl, h, cl.1, cl.2.1, rfl, a1, C1, Ib, Ie, M, ey, h1, hl, ?_⟩
 dsimp only [qT]
 rw [hdv, hsp]
 refine ⟨y, t1, zs, rfl, hs1, hd1, rfl, hok.1, p1, _, _, rfl, rfl, xI (by rw [zW]; show 2 + _ ≤ _; omega), ?_⟩
 refine ⟨_, _, rfl, rfl, xI (by rw [zX, zW]; show 2 + _ + 1 ≤ _; omega), ?_⟩
 refine ⟨_, rfl, _, _, rfl, rfl, xI (by rw [zX, zX, zW, yD (hw o)]; show 2 + _ + 1 + _ ≤ _; omega), ?_⟩
 refine ⟨_, _, rfl, rfl, xI (by rw [zX, zX, zX, zW, yD (hw o)]; show 2 + _ + 1 + _ + 1 ≤ _; omega), ?_⟩
 obtain ⟨a2, C2, Ze, Zf, M2, ez, h2, hl2, Mj, Ml⟩ := qJ T ih hs2
 refine ⟨_, rfl, a, _, dx, _, _, rfl, h, cl.1, cl.2.2, rfl, a2, C2, Ze, Zf, M2, ez, h2, hl2, ?_⟩
 dsimp only [qT]
 rw [Mj, Ml]
 refine ⟨z, t2, zs, rfl, hs2, hd2, rfl, hok.2, p2, _, _, rfl, rfl, xI (by rw [zX, zX, zX, zX, zW, zW, yD (hw o)]; show 2 + _ + 1 + _ + 1 + _ ≤ _; omega), ?_⟩
 refine ⟨_, _, rfl, rfl, xI (by rw [zX, zX, zX, zX, zX, zW, zW, yD (hw o)]; show 2 + _ + 1 + _ + 1 + _ + 2 ≤ _; omega), ?_⟩
 rw [Zc]; exact q
theorem Pr (T : Txt K mg A) {n kb : Nat} (ih : aF P w K mg base cD kb A.aQ A.bx ["self", "word"] (Rg A n)) : aF P w K mg base cD (kb + 1) A.gC A.gD ["self"] (uI A 3 (n + 1)) := by
 refine T.G8.ok Eo (fun vs H Q E h => ?_) (fun cdv A0 outer s H vs Q E hr h => ?_)
 · obtain ⟨x, t, zs, rfl, _⟩ := h
   rfl
 obtain ⟨x, t, zs, rfl, hs, hd, hk, hok, hb, q⟩ := h
 refine ⟨_, (zF (zG (yo (CX := cD) (k := kb) ‹hr› zM (pv 0) (zA zJ zB)))), ?_⟩
 cases t with
 | two o t1 t2 =>
   cases o with
   | true => cases hk
   | false =>
     have hd' : 1 + max t1.depth t2.depth < n + 1 := hd
     obtain ⟨a1, C1, Ib, Ie, M, ey, h1, hl, hdv, hsp⟩ := Ph T ih hs
     refine ⟨_, rfl, a1, C1, Ib, Ie, M, ey, h1, hl, ?_⟩
     rw [hdv, hsp]
     exact ⟨x, false, t1, t2, zs, rfl, hs, by omega, by omega, hok, hb, q⟩
 | is _ _ => cases hk
 | cmp _ _ _ => cases hk
 | neg _ => cases hk
theorem Pu (T : Txt K mg A) {n kb : Nat} (ih : aF P w K mg base cD kb A.aQ A.bx ["self", "word"] (Rg A n)) : aF P w K mg base cD (kb + 1) A.fD A.fG ["self"] (uI A 4 (n + 1)) := by
 refine T.Bp.ok Af (fun vs H Q E h => ?_) (fun cdv A0 outer s H vs Q E hr h => ?_)
 · obtain ⟨x, t, zs, rfl, _⟩ := h
   rfl
 obtain ⟨x, t, zs, rfl, hs, hd, hk, hok, hb, q⟩ := h
 refine ⟨_, (zF (zG (yo (CX := cD) (k := kb) ‹hr› zM (pv 0) (zA zJ zB)))), ?_⟩
 cases t with
 | two o t1 t2 =>
   cases o with
   | false => cases hk
   | true =>
     have hd' : 1 + max t1.depth t2.depth < n + 1 := hd
     obtain ⟨a1, C1, Ib, Ie, M, ey, h1, hl, hdv, hsp⟩ := Ph T ih hs
     refine ⟨_, rfl, a1, C1, Ib, Ie, M, ey, h1, hl, ?_⟩
     rw [hdv, hsp]
     exact ⟨x, true, t1, t2, zs, rfl, hs, by omega, by omega, hok, hb, q⟩
 | is _ _ => cases hk
 | cmp _ _ _ => cases hk
 | neg _ => cases hk
theorem Ak (T : Txt K mg A) : ∀ n : Nat, Zd P w K mg base A n (2 * n + 1)
 | 0 => by
   have len : ∀ (j : Nat) (vs : List V) (H : Hp) (Q : VK) (E : XK), uI A j 0 vs H Q E → False := fun j vs H Q E h => by
     obtain ⟨x, t, zs, rfl, _, hd, _⟩ := h
     exact absurd hd (by omega)
   exact ⟨⟨fun vs H Q E h => (len _ _ _ _ _ h).elim, fun _ _ _ _ _ _ _ _ _ _ _ _ _ h => (len _ _ _ _ _ h).elim⟩, ⟨fun vs H Q E h => (len _ _ _ _ _ h).elim, fun _ _ _ _ _ _ _ _ _ _ _ _ _ h => (len _ _ _ _ _ h).elim⟩, ⟨fun vs H Q E h => (len _ _ _ _ _ h).elim, fun _ _ _ _ _ _ _ _ _ _ _ _ _ h => (len _ _ _ _ _ h).elim⟩, ⟨fun vs H Q E h => (len _ _ _ _ _ h).elim, fun _ _ _ _ _ _ _ _ _ _ _ _ _ h => (len _ _ _ _ _ h).elim⟩, ⟨fun vs H Q E h => (len _ _ _ _ _ h).elim, fun _ _ _ _ _ _ _ _ _ _ _ _ _ h => (len _ _ _ _ _ h).elim⟩⟩
 | n + 1 =>
   have ih := Ak T n
   have bs := Pq T ih
   ⟨Pj T, Pk T, Pn (k := 2 * n + 2) T (by omega) ih, Pr T bs, Pu T bs⟩
end
end fX.Y
set_option maxHeartbeats 4000000
namespace fX.Y
open PySem L2
seal PE PT PW PA PS jG PG tE PI PO iV ir uT bL iW qU sy PC wD
local macro_rules | `(tactic| walk_at "rd1") => `(tactic| first
 | (refine And.intro rfl ?_)
 | (refine And.intro (by assumption) ?_)
 | (refine And.intro (fun _ e => e) ?_)
 | (refine And.intro (au.str _) ?_) | (refine And.intro (au.int _) ?_) | (refine And.intro (au.bl _) ?_) | (refine And.intro au.non ?_)
 | (refine cQ ?_) | (refine aM ?_)
 | (apply Exists.intro))
local macro_rules | `(tactic| walk_at "rd") => `(tactic| repeat (walk_at "rd1"))
def atT : Tr → List Tr
 | .is n v => [.is n v]
 | .cmp n h m => [.cmp n h m]
 | .neg t => atT t
 | .two _ s t => atT s ++ atT t
theorem vq : ∀ t : Tr, (atT t).length = t.size
 | .is _ _ => rfl
 | .cmp _ _ _ => rfl
 | .neg t => vq t
 | .two _ s t => by show (atT s ++ atT t).length = s.size + t.size; rw [List.length_append, vq s, vq t]
theorem lE {α β : Type} {R R' : α → β → Prop} (h : ∀ a b, R a b → R' a b) {as : List α} {bs : List β} (k : Paired R as bs) : Paired R' as bs := by
 induction k with
 | nil => exact .nil
 | cons r _ ih => exact .cons (h _ _ r) ih
theorem qK {α β : Type} {R : α → β → Prop} {as : List α} {bs : List β} (h : Paired R as bs) : ∀ {i : Nat} {x : α}, as[i]? = some x → ∃ b, bs[i]? = some b ∧ R x b := by
 induction h with
 | nil => intro i x e; simp at e
 | cons a _ ih =>
   intro i x e
   cases i with
   | zero => cases e; exact ⟨_, rfl, a⟩
   | succ j => exact ih e
theorem xQ {α β : Type} {R : α → β → Prop} {as : List α} {bs : List β} (h : Paired R as bs) : as.length = bs.length := by
 induction h with
 | nil => rfl
 | cons _ _ ih => rw [List.length_cons, List.length_cons, ih]
def Xz (A : dW) (j n : Nat) : Sp := fun vs H Q _ => ∃ (x : V) (t : Tr), vs = [x] ∧ m8 A H t x ∧ t.depth < n ∧ t.size ≤ 1000 ∧ kd t = j ∧ ∀ a ys H', aB H H' → H' a = some (.lst ys) → Paired (fun y u => m8 A H' u y) ys (atT t) → Q (.ref a) H'
def Ur (A : dW) (n : Nat) : Sp := fun vs H Q _ => ∃ (x : V) (o : Bool) (s t : Tr), vs = [x] ∧ m8 A H (.two o s t) x ∧ 1 + max s.depth t.depth < n ∧ s.size + t.size ≤ 1000 ∧ ∀ a ys H', aB H H' → H' a = some (.lst ys) → Paired (fun y u => m8 A H' u y) ys (atT s ++ atT t) → Q (.ref a) H'
structure AOk (P : Program) (w : World) (K : W.Frag) (mg : Str → Option Value) (base : Heap) (A : dW) (n k : Nat) : Prop where
 a : aF P w K mg base cD k A.jq A.jr ["self"] (Xz A 0 n)
 b : aF P w K mg base cD k A.d8 A.d9 ["self"] (Xz A 1 n)
 c : aF P w K mg base cD k A.iy A.iz ["self"] (Xz A 2 n)
 d : aF P w K mg base cD k A.dN A.fB ["self"] (Ur A n)
section
variable {P : Program} {w : World} {K : W.Frag} {mg : Str → Option Value} {base : Heap} {A : dW}
theorem Al (T : Txt K mg A) {n k : Nat} (ih : AOk P w K mg base A n k) {t : Tr} {x : V} {H : Hp} (hs : m8 A H t x) :
   ∃ (a C dx : Addr) (fs : List (Str × V)) (M : ym P w K mg base cD k C "atoms"), x = .ref a ∧ H a = some (.ins C dx fs) ∧ fs.lookup ‹"atoms"› = none ∧ M.nu = [] ∧
     ∀ Q E, (t.depth < n ∧ t.size ≤ 1000 ∧ ∀ a ys H', aB H H' → H' a = some (.lst ys) → Paired (fun y u => m8 A H' u y) ys (atT t) → Q (.ref a) H') → M.sp [x] H Q E := by
 cases t with
 | is nm v =>
   obtain ⟨a, dx, rfl, h⟩ := id hs
   exact ⟨a, _, dx, _, ⟨A.jq, A.jr, ["self"], Xz A 0 n, [], [], T.Hi, T.Oz, ih.a, T.Lb, .nil⟩, rfl, h, rfl, rfl, fun Q E ⟨h1, h2, h3⟩ => ⟨_, _, rfl, hs, h1, h2, rfl, h3⟩⟩
 | cmp nm h m =>
   obtain ⟨a, dx, rfl, h⟩ := id hs
   exact ⟨a, _, dx, _, ⟨A.d8, A.d9, ["self"], Xz A 1 n, [], [], T.gM, T.Bx, ih.b, T.zm, .nil⟩, rfl, h, rfl, rfl, fun Q E ⟨h1, h2, h3⟩ => ⟨_, _, rfl, hs, h1, h2, rfl, h3⟩⟩
 | neg t =>
   obtain ⟨a, dx, y, rfl, h, _⟩ := id hs
   exact ⟨a, _, dx, _, ⟨A.iy, A.iz, ["self"], Xz A 2 n, [], [], T.Hl, T.Lx, ih.c, T.IW, .nil⟩, rfl, h, rfl, rfl, fun Q E ⟨h1, h2, h3⟩ => ⟨_, _, rfl, hs, h1, h2, rfl, h3⟩⟩
 | two o s t =>
   obtain ⟨a, dx, y, z, rfl, h, _⟩ := id hs
   have key : ∀ Q E, ((Tr.two o s t).depth < n ∧ (Tr.two o s t).size ≤ 1000 ∧ ∀ a ys H', aB H H' → H' a = some (.lst ys) → Paired (fun y u => m8 A H' u y) ys (atT (.two o s t)) → Q (.ref a) H') → Ur A n [.ref a] H Q E := fun Q E ⟨h1, h2, h3⟩ => by
     exact ⟨_, o, s, t, rfl, hs, h1, h2, h3⟩
   cases o with
   | false => exact ⟨a, _, dx, _, ⟨A.dN, A.fB, ["self"], Ur A n, [], [], T.vm, T.Jk, ih.d, T.ue, .nil⟩, rfl, h, rfl, rfl, key⟩
   | true => exact ⟨a, _, dx, _, ⟨A.dN, A.fB, ["self"], Ur A n, [], [], T.m6, T.Ea, ih.d, T.ue, .nil⟩, rfl, h, rfl, rfl, key⟩
theorem Px (T : Txt K mg A) {n k : Nat} : aF P w K mg base cD (k + 1) A.jq A.jr ["self"] (Xz A 0 n) := by
 refine T.La.ok Ju (fun vs H Q E h => ?_) (fun cdv A0 outer s H vs Q E hr h => ?_)
 · obtain ⟨x, t, rfl, _⟩ := h
   rfl
 obtain ⟨x, t, rfl, hs, _, _, hk, q⟩ := h
 refine ⟨_, (zF (zG (yZ (zA (pv 0) zB)))), ?_⟩
 cases t with
 | is nm v =>
   refine ⟨_, rfl, (by show 1 ≤ sizeLine; decide), fun p hp => ?_⟩
   have sp := zK hp (.lst [x])
   exact q p [x] _ sp zD (.cons (hs.same sp) .nil)
 | cmp _ _ _ => cases hk
 | neg _ => cases hk
 | two o _ _ => cases o <;> cases hk
theorem Py (T : Txt K mg A) {n k : Nat} : aF P w K mg base cD (k + 1) A.d8 A.d9 ["self"] (Xz A 1 n) := by
 refine T.zj.ok xn (fun vs H Q E h => ?_) (fun cdv A0 outer s H vs Q E hr h => ?_)
 · obtain ⟨x, t, rfl, _⟩ := h
   rfl
 obtain ⟨x, t, rfl, hs, _, _, hk, q⟩ := h
 refine ⟨_, (zF (zG (yZ (zA (pv 0) zB)))), ?_⟩
 cases t with
 | cmp nm h m =>
   refine ⟨_, rfl, (by show 1 ≤ sizeLine; decide), fun p hp => ?_⟩
   have sp := zK hp (.lst [x])
   exact q p [x] _ sp zD (.cons (hs.same sp) .nil)
 | is _ _ => cases hk
 | neg _ => cases hk
 | two o _ _ => cases o <;> cases hk
theorem Pz (T : Txt K mg A) {n ka : Nat} (ih : AOk P w K mg base A n ka) : aF P w K mg base cD (ka + 1) A.iy A.iz ["self"] (Xz A 2 (n + 1)) := by
 refine T.IV.ok Hw (fun vs H Q E h => ?_) (fun cdv A0 outer s H vs Q E hr h => ?_)
 · obtain ⟨x, t, rfl, _⟩ := h
   rfl
 obtain ⟨x, t, rfl, hs, hd, hz, hk, q⟩ := h
 refine ⟨_, (zF (zG (yE (CX := cD) (k := ka) ‹hr› zM (zZ (pv 0) rfl)))), ?_⟩
 cases t with
 | neg t =>
   obtain ⟨a, dx, y, rfl, h, hs1⟩ := hs
   have hd' : t.depth + 1 < n + 1 := hd
   obtain ⟨a1, C1, Ib, Ie, M, ey, h1, hl, hdv, hsp⟩ := Al T ih hs1
   refine ⟨_, rfl, a, _, dx, _, _, rfl, h, T.Hl, T.ur, rfl, a1, C1, Ib, Ie, M, ey, h1, hl, ?_⟩
   dsimp only [qT]
   rw [hdv]
   exact hsp _ _ ⟨by omega, hz, q⟩
 | is _ _ => cases hk
 | cmp _ _ _ => cases hk
 | two o _ _ => cases o <;> cases hk
theorem PB (T : Txt K mg A) {n ka : Nat} (ih : AOk P w K mg base A n ka) : aF P w K mg base cD (ka + 1) A.dN A.fB ["self"] (Ur A (n + 1)) := by
 refine T.G7.ok En (fun vs H Q E h => ?_) (fun cdv A0 outer s H vs Q E hr h => ?_)
 · obtain ⟨x, o, s, t, rfl, _⟩ := h
   rfl
 obtain ⟨x, o, t1, t2, rfl, hs, hd, hz, q⟩ := h
 refine ⟨_, (zF (zG (zL Vj (yE (CX := cD) (k := ka) ‹hr› zM (zZ (pv 0) rfl)) (yE (CX := cD) (k := ka) ‹hr› zM (zZ (pv 0) rfl))))), ?_⟩
 obtain ⟨a, dx, y, z, rfl, h, hs1, hs2⟩ := hs
 have cl : uU K (cT A o) ∧ aD K (cT A o) "one" ∧ aD K (cT A o) "other" := by
   cases o
   · exact ⟨T.vm, T.uv, T.pO⟩
   · exact ⟨T.m6, T.pP, T.lV⟩
 obtain ⟨a1, C1, Ib, Ie, M, ey, h1, hl, hdv, hsp⟩ := Al T ih hs1
 refine ⟨_, rfl, a, _, dx, _, _, rfl, h, cl.1, cl.2.1, rfl, a1, C1, Ib, Ie, M, ey, h1, hl, ?_⟩
 dsimp only [qT]
 rw [hdv]
 refine hsp _ _ ⟨by omega, by omega, fun l1 ys1 H1 s1 e1 p1 => ?_⟩
 have apG := hs2.same s1
 obtain ⟨a2, C2, Ze, Zf, M2, ez, h2, hl2, Mj, Ml⟩ := Al T ih apG
 refine ⟨_, rfl, a, _, dx, _, _, rfl, s1 _ _ h, cl.1, cl.2.2, rfl, a2, C2, Ze, Zf, M2, ez, h2, hl2, ?_⟩
 dsimp only [qT]
 rw [Mj]
 refine Ml _ _ ⟨by omega, by omega, fun l2 ys2 H2 s2 e2 p2 => ?_⟩
 refine ⟨l1, l2, ys1, ys2, rfl, rfl, s2 _ _ e1, e2, ?_, fun p hp => ?_⟩
 · rw [xQ p1, xQ p2, vq, vq]; exact Nat.le_trans hz (by decide)
 have s3 := zK hp (.lst (ys1 ++ ys2))
 exact q p _ _ (s1.trans (s2.trans s3)) zD (HW (lE (fun y u r => m8.same (s2.trans s3) r) p1) (lE (fun y u r => m8.same s3 r) p2))
theorem PJ (T : Txt K mg A) : ∀ n : Nat, AOk P w K mg base A n (n + 1)
 | 0 => by
   have len : ∀ (j : Nat) (vs : List V) (H : Hp) (Q : VK) (E : XK), Xz A j 0 vs H Q E → False := fun j vs H Q E h => by
     obtain ⟨x, t, rfl, _, hd, _⟩ := h
     exact absurd hd (by omega)
   have aeK : ∀ (vs : List V) (H : Hp) (Q : VK) (E : XK), Ur A 0 vs H Q E → False := fun vs H Q E h => by
     obtain ⟨x, o, s, t, rfl, _, hd, _⟩ := h
     exact absurd hd (by omega)
   exact ⟨⟨fun vs H Q E h => (len _ _ _ _ _ h).elim, fun _ _ _ _ _ _ _ _ _ _ _ _ _ h => (len _ _ _ _ _ h).elim⟩, ⟨fun vs H Q E h => (len _ _ _ _ _ h).elim, fun _ _ _ _ _ _ _ _ _ _ _ _ _ h => (len _ _ _ _ _ h).elim⟩, ⟨fun vs H Q E h => (len _ _ _ _ _ h).elim, fun _ _ _ _ _ _ _ _ _ _ _ _ _ h => (len _ _ _ _ _ h).elim⟩, ⟨fun vs H Q E h => (aeK _ _ _ _ h).elim, fun _ _ _ _ _ _ _ _ _ _ _ _ _ h => (aeK _ _ _ _ h).elim⟩⟩
 | n + 1 =>
   have ih := PJ T n
   ⟨Px T, Py T, Pz T ih, PB T ih⟩
end
end fX.Y
set_option maxHeartbeats 4000000
namespace fX.Y
open PySem L2
seal PE PT PW PA PS jG PG tE PI PO iV ir uT bL iW qU sy PC wD
local macro_rules | `(tactic| walk_at "rd1") => `(tactic| first
 | (refine And.intro rfl ?_)
 | (refine And.intro (by assumption) ?_)
 | (refine And.intro (fun _ e => e) ?_)
 | (refine And.intro (au.str _) ?_) | (refine And.intro (au.int _) ?_) | (refine And.intro (au.bl _) ?_) | (refine And.intro au.non ?_)
 | (refine cQ ?_) | (refine aM ?_)
 | (apply Exists.intro))
local macro_rules | `(tactic| walk_at "rd") => `(tactic| repeat (walk_at "rd1"))
abbrev Wd := List Nat
abbrev PK : Wd := cd ‹"not"›
abbrev XC : Wd := cd ‹"("›
abbrev Zg : Wd := cd ‹")"›
abbrev W9 : Wd := cd ‹"and"›
abbrev cOr : Wd := cd ‹"or"›
abbrev cIs : Wd := cd ‹"is"›
def tk : Option (List Wd) → Wd × Option (List Wd)
 | some (w :: r) => (w, some r)
 | some [] => ([], none)
 | none => ([], none)
def Uz (x y z : Wd) : Option Tr :=
 if nameB (S x) = true ∧ y = cIs ∧ nameB (S z) = true then some (.is (S x) (.str (S z)))
 else match fM z 60 with
   | some n => if nameB (S x) = true ∧ (S y = "<" ∨ S y = "=" ∨ S y = ">") then some (.cmp (S x) (S y) n) else none
   | none => none
def Ss (p : Tr × Option (List Wd)) (q : Tr × Option (List Wd)) : Option (Tr × Option (List Wd)) :=
 if (tk q.2).1 = Zg ∧ (tk p.2).1 = W9 then some (.two false p.1 q.1, (tk q.2).2) else if (tk q.2).1 = Zg ∧ (tk p.2).1 = cOr then some (.two true p.1 q.1, (tk q.2).2) else none
def vy : Nat → Option (List Wd) → Option (Tr × Option (List Wd))
 | 0, _ => none
 | d + 1, s =>
   if (tk s).1 = PK then (vy d (tk s).2).map fun p => (.neg p.1, p.2)
   else if (tk s).1 = XC then (vy d (tk s).2).bind fun p => (vy d (tk p.2).2).bind fun q => Ss p q
   else (Uz (tk s).1 (tk (tk s).2).1 (tk (tk (tk s).2).2).1).map fun t => (t, (tk (tk (tk s).2).2).2)
theorem Su : ∀ {d : Nat} {s s' : Option (List Wd)} {t : Tr}, vy d s = some (t, s') → t.depth ≤ d ∧ t.size ≤ 2 ^ d
 | 0, _, _, _, h => by cases h
 | d + 1, s, s', t, h => by
   have h2 : 0 < 2 ^ d := Nat.two_pow_pos d
   unfold vy at h
   split at h
   · obtain ⟨⟨u, s1⟩, h1, e⟩ := Option.map_eq_some_iff.mp h
     cases e
     obtain ⟨a, b⟩ := Su h1
     exact ⟨by show u.depth + 1 ≤ d + 1; omega, by show u.size ≤ 2 ^ (d + 1); rw [Nat.pow_succ]; omega⟩
   · split at h
     · obtain ⟨p, h1, h⟩ := Option.bind_eq_some_iff.mp h
       obtain ⟨q, h2', h⟩ := Option.bind_eq_some_iff.mp h
       obtain ⟨u, s1⟩ := p
       obtain ⟨v, s2⟩ := q
       obtain ⟨a, b⟩ := Su h1
       obtain ⟨a', b'⟩ := Su h2'
       have key : ∀ o, (Tr.two o u v).depth ≤ d + 1 ∧ (Tr.two o u v).size ≤ 2 ^ (d + 1) := fun o =>
         ⟨by show 1 + max u.depth v.depth ≤ d + 1; omega, by show u.size + v.size ≤ 2 ^ (d + 1); rw [Nat.pow_succ]; omega⟩
       unfold Ss at h
       split at h
       · cases h; exact key false
       · split at h
         · cases h; exact key true
         · cases h
     · obtain ⟨u, h1, e⟩ := Option.map_eq_some_iff.mp h
       cases e
       have key : t.depth = 1 ∧ t.size = 1 := by
         unfold Uz at h1
         split at h1
         · cases h1; exact ⟨rfl, rfl⟩
         · split at h1
           · split at h1
             · cases h1; exact ⟨rfl, rfl⟩
             · cases h1
           · cases h1
       exact ⟨by rw [key.1]; omega, by rw [key.2, Nat.pow_succ]; omega⟩
def UG (ws : List Wd) (k : Nat) (st : Option (List Wd)) : Prop := (st = some (ws.drop k) ∧ k ≤ ws.length) ∨ (st = none ∧ ws.length < k)
theorem UG.tk {ws : List Wd} {k : Nat} {st : Option (List Wd)} (h : UG ws k st) : (tk st).1 = ws.getD k [] ∧ UG ws (k + 1) (fX.Y.tk st).2 := by
 rcases h with ⟨rfl, h⟩ | ⟨rfl, h⟩
 · by_cases e : k < ws.length
   · have hd : ws.drop k = ws[k] :: ws.drop (k + 1) := (List.getElem_cons_drop ..).symm
     rw [hd]
     exact ⟨by simp [fX.Y.tk, List.getD, e], .inl ⟨rfl, e⟩⟩
   · have hd : ws.drop k = [] := List.drop_eq_nil_of_le (by omega)
     rw [hd]
     exact ⟨by simp [fX.Y.tk, List.getD, Nat.not_lt.mp e], .inr ⟨rfl, by omega⟩⟩
 · exact ⟨by simp [fX.Y.tk, List.getD, Nat.le_of_lt h], .inr ⟨rfl, by omega⟩⟩
theorem UG.fine {ws : List Wd} (hf : ∀ l ∈ ws, bN 1000 (S l)) (k : Nat) : bN 1000 (S (ws.getD k [])) := by
 by_cases e : k < ws.length
 · have : ws.getD k [] = ws[k] := by simp [List.getD, e]
   rw [this]; exact hf _ (List.getElem_mem e)
 · have : ws.getD k [] = [] := by simp [List.getD, Nat.not_lt.mp e]
   rw [this]; exact ⟨by rw [zW]; decide, fun c hc => by rw [dq] at hc; cases hc⟩
abbrev wv (ws : List (List Nat)) : List V := ws.map fun l => V.str (S l)
def uJ (A : dW) (H : Hp) (lw dx oK : Addr) (k : Nat) : Prop := H lw = some (.ins A.az dx [("words", .ref oK), ("taken", .int (k : Nat))])
def apH (A : dW) : Sp := fun vs H Q _ => ∃ p dx u1, vs = [.ref p, u1] ∧ H p = some (.ins A.az dx []) ∧ Q .non (upd H p (.ins A.az dx [("words", u1), ("taken", .int 0)]))
def aby (A : dW) : Sp := fun vs H Q _ => ∃ (lw dx oK : Addr) (k : Nat) (ws : List (List Nat)), vs = [.ref lw] ∧ uJ A H lw dx oK k ∧ H oK = some (.lst (wv ws)) ∧ ∀ H', jf lw H H' → uJ A H' lw dx oK (k + 1) → Q (.str (S (ws.getD k []))) H'
def Xa (A : dW) : Sp := fun vs H Q _ => ∃ (lw dx oK : Addr) (k : Nat) (ws : List (List Nat)), vs = [.ref lw] ∧ uJ A H lw dx oK k ∧ H oK = some (.lst (wv ws)) ∧ Q (.bl (decide (k = ws.length))) H
def apI (A : dW) (K : W.Frag) : Sp := fun vs H Q E => ∃ x y z : Wd, vs = [.str (S x), .str (S y), .str (S z)] ∧ bN 1000 (S x) ∧ bN 1000 (S y) ∧ bN 1000 (S z) ∧ (∀ t, Uz x y z = some t → ∀ u H', aB H H' → m8 A H' t u → Q u H') ∧ (Uz x y z = none → ∀ H', aB H H' → E (.ref A.fV) none H')
def aeL (A : dW) (K : W.Frag) (n : Nat) : Sp := fun vs H Q E => ∃ (lw dx oK : Addr) (k : Nat) (ws : List Wd) (st : Option (List Wd)), vs = [.ref lw, .int (n : Nat)] ∧ uJ A H lw dx oK k ∧ H oK = some (.lst (wv ws)) ∧ (∀ l ∈ ws, bN 1000 (S l)) ∧ UG ws k st ∧
 (∀ t st', vy n st = some (t, st') → ∀ u H' k', jf lw H H' → uJ A H' lw dx oK k' → UG ws k' st' → m8 A H' t u → Q u H') ∧ (vy n st = none → ∀ H', jf lw H H' → E (.ref A.fV) none H')
def apJ (A : dW) (K : W.Frag) (n : Nat) : Sp := fun vs H Q E => ∃ (lw dx oK : Addr) (k : Nat) (ws : List Wd) (st : Option (List Wd)), vs = [.ref lw, .int (n : Nat)] ∧ uJ A H lw dx oK k ∧ H oK = some (.lst (wv ws)) ∧ (∀ l ∈ ws, bN 1000 (S l)) ∧ UG ws k st ∧
 (∀ t st', ((vy n st).bind fun p => (vy n (tk p.2).2).bind fun q => Ss p q) = some (t, st') → ∀ u H' k', jf lw H H' → uJ A H' lw dx oK k' → UG ws k' st' → m8 A H' t u → Q u H') ∧ (((vy n st).bind fun p => (vy n (tk p.2).2).bind fun q => Ss p q) = none → ∀ H', jf lw H H' → E (.ref A.fV) none H')
theorem PL {lw : Addr} {H H1 H2 : Hp} (a : jf lw H H1) (b : jf lw H1 H2) : jf lw H H2 := fun c o n e => b c o n (a c o n e)
theorem sbO {lw : Addr} {H H' : Hp} (s : aB H H') : jf lw H H' := fun c o _ e => s c o e
theorem sbR {lw : Addr} {H : Hp} : jf lw H H := fun c o _ e => e
theorem sbL {lw dx oK : Addr} {k : Nat} {xs : List V} {A : dW} {H H' : Hp} (s : jf lw H H') (w : uJ A H lw dx oK k) (h : H oK = some (.lst xs)) : H' oK = some (.lst xs) := s _ _ (by rintro rfl; rw [show H oK = _ from w] at h; cases h) h
section
variable {P : Program} {w : World} {K : W.Frag} {mg : Str → Option Value} {base : Heap} {A : dW}
theorem Rh (T : Txt K mg A) : aF P w K mg base cD 1 A.gF A.gG ["self", "words"] (apH A) := by
 refine T.uf.ok sY (fun vs H Q E h => ?_) (fun cdv A0 outer s H vs Q E hr h => ?_)
 · obtain ⟨p, dx, u1, rfl, _⟩ := h
   rfl
 obtain ⟨p, dx, u1, rfl, hp, q⟩ := h
 refine ⟨_, (zC (yN (pv 0) (pv 1) rfl)
     (zF (yN (pv 0) zE rfl))), ?_⟩
 refine ⟨_, rfl, _, rfl, p, _, dx, _, rfl, hp, T.b8, T.fW, by decide, ?_⟩
 refine ⟨_, rfl, p, _, dx, _, rfl, zD, T.b8, T.cW, (by show 1 < 1000; decide), ?_⟩
 rw [yH]
 exact q
theorem Zh (T : Txt K mg A) : aF P w K mg base cD 1 A.fQ A.fU ["self"] (aby A) := by
 refine T.wV.ok mD (fun vs H Q E h => ?_) (fun cdv A0 outer s H vs Q E hr h => ?_)
 · obtain ⟨lw, dx, oK, k, ws, rfl, _⟩ := h
   rfl
 obtain ⟨lw, dx, oK, k, ws, rfl, hw', hl, q⟩ := h
 refine ⟨_, (zC (zY (i := 1) mD.nd rfl (by first | exact Or.inl rfl | exact Or.inr rfl) (xD (zQ MK (zZ (pv 0) rfl) (zR yI (by rfl) T.jy PySem.boot_len (zA (zZ (pv 0) rfl) zB)) (zS _)) (yC zU (zZ (pv 0) rfl) (zZ (pv 0) rfl) (fun _ _ => rfl)) zJ))
     (zC (Th (pv 0) zE aaJ)
     (zF (zG (pv 1))))), ?_⟩
 refine ⟨_, rfl, lw, _, dx, _, _, rfl, hw', T.b8, T.cW, rfl, _, rfl, lw, _, dx, _, _, rfl, hw', T.b8, T.fW, rfl, oK, _, rfl, .inl (bz.of hl), _, _, rfl, rfl, _, rfl, ?_⟩
 by_cases hlt : k < ws.length
 · have hat : wB (wv ws) ((k : Nat) : Int) = some (.str (S (ws.getD k []))) := yG (by rw [List.getElem?_map, List.getElem?_eq_getElem hlt]; simp [List.getD, hlt])
   rw [show decide (((k : Nat) : Int) < (((wv ws).length : Nat) : Int)) = true from decide_eq_true (by rw [List.length_map]; omega)]
   refine cQ ⟨_, rfl, lw, _, dx, _, _, rfl, hw', T.b8, T.fW, rfl, _, rfl, lw, _, dx, _, _, rfl, hw', T.b8, T.cW, rfl, oK, _, _, _, rfl, rfl, bz.of hl, hat, ?_⟩
   refine ⟨_, rfl, lw, _, dx, _, _, rfl, hw', T.b8, T.cW, rfl, _, _, rfl, rfl, dx, _, hw', (by show 2 < 1000; decide), ?_⟩
   exact ⟨_, rfl, q _ (fun b o n e => by rw [zP n]; exact e) (by show upd _ _ _ _ = _; rw [zD]; rfl)⟩
 · rw [show decide (((k : Nat) : Int) < (((wv ws).length : Nat) : Int)) = false from decide_eq_false (by rw [List.length_map]; omega)]
   have e0 : S (ws.getD k []) = ‹""› := by
     rw [show ws.getD k [] = [] by simp [List.getD, Nat.not_lt.mp hlt]]; decide +kernel
   rw [e0] at q
   refine aM ?_
   refine ⟨_, rfl, lw, _, dx, _, _, rfl, hw', T.b8, T.cW, rfl, _, _, rfl, rfl, dx, _, hw', (by show 2 < 1000; decide), ?_⟩
   exact ⟨_, rfl, q _ (fun b o n e => by rw [zP n]; exact e) (by show upd _ _ _ _ = _; rw [zD]; rfl)⟩
theorem Mm (T : Txt K mg A) : aF P w K mg base cD 1 A.cA A.cB ["self"] (Xa A) := by
 refine T.mV.ok lY (fun vs H Q E h => ?_) (fun cdv A0 outer s H vs Q E hr h => ?_)
 · obtain ⟨lw, dx, oK, k, ws, rfl, _⟩ := h
   rfl
 obtain ⟨lw, dx, oK, k, ws, rfl, hw', hl, q⟩ := h
 refine ⟨_, (zF (zG (xF yR (zZ (pv 0) rfl) (zR yI (by rfl) T.jy PySem.boot_len (zA (zZ (pv 0) rfl) zB)) (zS _)))), ?_⟩
 refine ⟨_, rfl, lw, _, dx, _, _, rfl, hw', T.b8, T.cW, rfl, _, rfl, lw, _, dx, _, _, rfl, hw', T.b8, T.fW, rfl, oK, _, rfl, .inl (bz.of hl), rfl, ?_⟩
 rw [show decide (V.int ((k : Nat) : Int) = V.int (((wv ws).length : Nat) : Int)) = decide (k = ws.length) from decide_eq_decide.mpr (by rw [List.length_map]; constructor; (intro e; exact Int.ofNat.inj (V.int.inj e)); (intro e; rw [e]))]
 exact q
theorem Am (T : Txt K mg A) {H : Hp} {lw dx oK : Addr} {k : Nat} (h : uJ A H lw dx oK k) :
   ∃ (a C dx : Addr) (fs : List (Str × V)) (M : ym P w K mg base cD 1 C "take"), V.ref lw = .ref a ∧ H a = some (.ins C dx fs) ∧ fs.lookup ‹"take"› = none ∧ M.nu = [] ∧ M.sp = aby A :=
 ⟨lw, _, dx, _, ⟨A.fQ, A.fU, ["self"], aby A, [], [], T.b8, T.zx, Zh T, T.wW, .nil⟩, rfl, h, rfl, rfl, rfl⟩
theorem Zi (T : Txt K mg A) {H : Hp} {lw dx oK : Addr} {k : Nat} (h : uJ A H lw dx oK k) :
   ∃ (a C dx : Addr) (fs : List (Str × V)) (M : ym P w K mg base cD 1 C "are_all_taken"), V.ref lw = .ref a ∧ H a = some (.ins C dx fs) ∧ fs.lookup ‹"are_all_taken"› = none ∧ M.nu = [] ∧ M.sp = Xa A :=
 ⟨lw, _, dx, _, ⟨A.cA, A.cB, ["self"], Xa A, [], [], T.b8, T.oG, Mm T, T.mW, .nil⟩, rfl, h, rfl, rfl, rfl⟩
theorem Ri (T : Txt K mg A) {H : Hp} {z : Str} (h : bN 1000 z) : Ok K H (.str z) := ⟨⟨Z2 T H z, trivial⟩, fun y e => by cases e; exact h⟩
end
end fX.Y
set_option maxHeartbeats 4000000
namespace fX.Y
open PySem L2
seal PE PT PW PA PS jG PG tE PI PO iV ir uT bL iW qU sy PC wD
local macro_rules | `(tactic| walk_at "rd1") => `(tactic| first
 | (refine And.intro rfl ?_)
 | (refine And.intro (by assumption) ?_)
 | (refine And.intro (fun _ e => e) ?_)
 | (refine And.intro (au.str _) ?_) | (refine And.intro (au.int _) ?_) | (refine And.intro (au.bl _) ?_) | (refine And.intro au.non ?_)
 | (refine cQ ?_) | (refine aM ?_)
 | (apply Exists.intro))
local macro_rules | `(tactic| walk_at "rd") => `(tactic| repeat (walk_at "rd1"))
theorem abz (y : Wd) : inV (.str (S y)) [.str ‹"<"›, .str ‹"="›, .str ‹">"›] = decide (S y = "<" ∨ S y = "=" ∨ S y = ">") := by
 show inV (.str (S y)) ((["<", "=", ">"] : List Str).map V.str) = _
 rw [uF]
 exact decide_eq_decide.mpr (by simp)
section
variable {P : Program} {w : World} {K : W.Frag} {mg : Str → Option Value} {base : Heap} {A : dW}
theorem An (T : Txt K mg A) : aF P w K mg base (vz P w) 4 A.oW A.tR ["name", "how", "what"] (apI A K) := by
 have qH := xq (P := P) (w := w) (base := base) T
 have fJ := xT (P := P) (w := w) (base := base) T
 have Jy := Ra (P := P) (w := w) (base := base) T
 have xx := Rb (P := P) (w := w) (base := base) T
 refine T.Ol.ZG Ag (fun vs H Q E h => ?_) (fun cdv A0 outer s H vs Q E hr h => ?_)
 · obtain ⟨x, y, z, rfl, _⟩ := h
   rfl
 obtain ⟨x, y, z, rfl, fx, fy, fz, qs, qn⟩ := h
 refine ⟨_, (zC (yB (PW.pt (pB (yA (zI qH ‹hr› rfl T.vh T.vg T.vf .nil zM (zA (pv 0) zB))) (pB (zQ yR (pv 1) zJ (zS _)) (oR (yA (zI qH ‹hr› rfl T.vh T.vg T.vf .nil zM (zA (pv 2) zB))))))) (zF (zG (yU T.aej Jy ‹hr› rfl T.apu T.G4 T.G5 zM (zA (pv 0) (zA (pv 2) zB))))) zO)
     (zC (zY (i := 3) Ag.nd rfl (by first | exact Or.inl rfl | exact Or.inr rfl) (zI fJ ‹hr› rfl T.j0 T.jZ T.jY .nil zM (zA (pv 2) zB)))
     (zC (yB (PW.pt (pB (yA (zI qH ‹hr› rfl T.vh T.vg T.vf .nil zM (zA (pv 0) zB))) (pB (zQ pY (pv 1) (xL rfl T.aa7) (by rfl)) (oR (zQ Ex (pv 3) yS (zS _)))))) (zF (zG (yU T.Q3 xx ‹hr› rfl T.T7 T.wU .nil zM (zA (pv 0) (zA (pv 1) (zA (pv 3) zB)))))) zO)
     (zF (xM T.j5 T.j6 (zA (Ob (V7 (YB (pv 0) (V7 (YB (pv 1) (V7 (YB (pv 2) V6))))))) zB) rfl))))), ?_⟩
 have lx : (S x).length ≤ 100000 := Nat.le_trans fx.len (by decide)
 have ly : (S y).length ≤ 100000 := Nat.le_trans fy.len (by decide)
 have lz : (S z).length ≤ 100000 := Nat.le_trans fz.len (by decide)
 have cx : ∀ k ∈ cd (S x), k < 1000 := fun k hk => Nat.lt_of_lt_of_le (fx.KY k hk) (Nat.le_refl _)
 have cy : ∀ k ∈ cd (S y), k < 1000 := fun k hk => Nat.lt_of_lt_of_le (fy.KY k hk) (Nat.le_refl _)
 have cz : ∀ k ∈ cd (S z), k < 1000 := fun k hk => Nat.lt_of_lt_of_le (fz.KY k hk) (Nat.le_refl _)
 refine vp (fun σ' H' => aB H H' ∧ σ' = [some (.str (S x)), some (.str (S y)), some (.str (S z)), none] ∧ ¬ (nameB (S x) = true ∧ y = cIs ∧ nameB (S z) = true)) ?kk ?mm
 case mm =>
   intro key
   refine ⟨_, rfl, .str (S x), rfl, Ri T fx, fun H1 s1 => ⟨_, rfl, ?_⟩⟩
   show if nameB (S x) = true then _ else _
   refine du (fun c1 => ?_) (fun c1 => aM (key _ _ ⟨s1, rfl, fun e => c1 e.1⟩))
   by_cases e2 : y = cIs
   · subst e2
     refine ⟨_, rfl, rfl, _, rfl, eqS (fL _) ⟨_, rfl, .str (S z), rfl, Ri T fz, fun H2 s2 => ⟨_, rfl, ?_⟩⟩⟩
     show if nameB (S z) = true then _ else _
     refine du (fun c3 => ?_) (fun c3 => key _ _ ⟨s1.trans s2, rfl, fun e => c3 e.2.2⟩)
     refine ⟨_, rfl, _, rfl, fun o dx nx nd ne => ⟨o, dx, _, _, _, rfl, zD, rfl, ?_⟩⟩
     rw [yH]
     exact qs _ (if_pos ⟨c1, rfl, c3⟩) _ _ (s1.trans (s2.trans (yK nx nd _))) ⟨o, dx, rfl, zD⟩
   · refine ⟨_, rfl, rfl, _, rfl, neS (fun e => e2 ?_) (aM (key _ _ ⟨s1, rfl, fun e => e2 e.2.1⟩))⟩
     have := congrArg cd e
     rwa [dq] at this
 case kk =>
 rintro σ' H' ⟨s0, rfl, hnot⟩
 refine ⟨_, rfl, _, rfl, fz, fun H2 s2 => ?_⟩
 rw [dq]
 have s02 := s0.trans s2
 dsimp only [gf]
 refine vp (fun σ' H' => aB H H' ∧ (∃ v, σ' = [some (.str (S x)), some (.str (S y)), some (.str (S z)), v]) ∧ Uz x y z = none) ?k2 ?m2
 case k2 =>
   rintro σ' H' ⟨s3, ⟨v, rfl⟩, hn⟩
   refine ⟨_, rfl, _, rfl, lx, cx, _, rfl, _, rfl, ly, cy, _, rfl, _, rfl, lz, cz, fun m => ?_⟩
   exact ⟨(by show 1 ≤ sizeLine; decide), qn hn _ s3⟩
 case m2 =>
   intro key
   have eA : Uz x y z = (match fM z 60 with
     | some n => if nameB (S x) = true ∧ (S y = "<" ∨ S y = "=" ∨ S y = ">") then some (.cmp (S x) (S y) n) else none
     | none => none) := if_neg hnot
   refine ⟨_, rfl, .str (S x), rfl, Ri T fx, fun H3 s3 => ⟨_, rfl, ?_⟩⟩
   have s03 := s02.trans s3
   show if nameB (S x) = true then _ else _
   refine du (fun c1 => ?_) (fun c1 => aM (key _ _ ⟨s03, ⟨_, rfl⟩, ?_⟩))
   · refine ⟨_, rfl, _, _, rfl, .inr (T.aa8 _), rfl, rfl, _, rfl, ?_⟩
     rw [show (if false = true then !inV (.str (S y)) [.str ‹"<"›, .str ‹"="›, .str ‹">"›] else inV (.str (S y)) [.str ‹"<"›, .str ‹"="›, .str ‹">"›]) = decide (S y = "<" ∨ S y = "=" ∨ S y = ">") from abz y]
     refine du (fun c2 => ?_) (fun c2 => aM (key _ _ ⟨s03, ⟨_, rfl⟩, ?_⟩))
     · have c2' := of_decide_eq_true c2
       cases en : fM z 60 with
       | none =>
         rw [en] at eA
         exact ⟨_, rfl, rfl, _, rfl, aM (key _ _ ⟨s03, ⟨_, rfl⟩, eA⟩)⟩
       | some n =>
         rw [en] at eA
         refine ⟨_, rfl, rfl, _, rfl, cQ ?_⟩
         refine ⟨_, rfl, _, rfl, _, rfl, fun o dx nx nd ne => ⟨o, dx, _, _, _, rfl, zD, rfl, ?_⟩⟩
         rw [yH]
         exact qs _ (eA.trans (if_pos ⟨c1, c2'⟩)) _ _ (s03.trans (yK nx nd _)) ⟨o, dx, rfl, zD⟩
     · rw [eA]
       cases fM z 60 with
       | none => rfl
       | some n => exact if_neg fun e => c2 (decide_eq_true e.2)
   · rw [eA]
     cases fM z 60 with
     | none => rfl
     | some n => exact if_neg fun e => c1 e.1
theorem Mp (T : Txt K mg A) {n k : Nat} (hk : 2 ≤ k) (ih : aF P w K mg base (vz P w) k A.jg A.lq ["left", "deepest"] (aeL A K n)) : aF P w K mg base (vz P w) (k + 1) A.kZ A.oX ["left", "deepest"] (apJ A K n) := by
 have eF := ih
 have sW := Rc (P := P) (w := w) (base := base) T
 refine T.Om.ZG jA (fun vs H Q E h => ?_) (fun cdv A0 outer s H vs Q E hr h => ?_)
 · obtain ⟨lw, dx, oK, k, ws, st, rfl, _⟩ := h
   rfl
 obtain ⟨lw, dx, oK, k0, ws, st, rfl, hW, hl, hf, hst, qs, qn⟩ := h
 obtain ⟨kt, hkt⟩ : ∃ kt : Nat, kt = 1 := ⟨1, rfl⟩
 refine ⟨_, (zC (zY (i := 2) jA.nd rfl (by first | exact Or.inl rfl | exact Or.inr rfl) (zI eF ‹hr› rfl T.lB T.lA T.lr .nil yg (zA (pv 0) (zA (pv 1) zB))))
     (zC (zY (i := 3) jA.nd rfl (by first | exact Or.inl rfl | exact Or.inr rfl) (yE (CX := cD) (k := kt) ‹hr› zM (pv 0)))
     (zC (zY (i := 4) jA.nd rfl (by first | exact Or.inl rfl | exact Or.inr rfl) (zI eF ‹hr› rfl T.lB T.lA T.lr .nil yg (zA (pv 0) (zA (pv 1) zB))))
     (zC (zY (i := 5) jA.nd rfl (by first | exact Or.inl rfl | exact Or.inr rfl) (xF yR (yE (CX := cD) (k := kt) ‹hr› zM (pv 0)) zJ (zS _)))
     (zC (yB (PW.pt (pB (yA (pv 5)) (oR (zQ yR (pv 3) zJ (zS _))))) (zF (zG (yU T.YW sW ‹hr› rfl T.abi T.sO .nil zM (zA (pv 2) (zA (pv 4) zB))))) zO)
     (zC (yB (PW.pt (pB (yA (pv 5)) (oR (zQ yR (pv 3) zJ (zS _))))) (zF (zG (yU T.T8 sW ‹hr› rfl T.Wk T.sO .nil zM (zA (pv 2) (zA (pv 4) zB))))) zO)
     (zF (xM T.j5 T.j6 (zA (Ob (V7 (YB (pv 3) (V7 V6)))) zB) rfl)))))))), ?_⟩
 subst hkt
 refine ⟨_, rfl, _, rfl, lw, dx, oK, k0, ws, st, rfl, hW, hl, hf, hst, fun t1 st1 e1 u1 H1 k1 s1 W1 r1 y1 => ?_, fun e1 H1 s1 => qn (by rw [e1]; rfl) H1 s1⟩
 have l1 := sbL s1 hW hl
 obtain ⟨a1, C1, Ib, Ie, M, ey, h1, hl1, hdv, hsp⟩ := Am (P := P) (w := w) (base := base) T W1
 refine ⟨_, rfl, a1, C1, Ib, Ie, M, ey, h1, hl1, ?_⟩
 dsimp only [qT]
 rw [hdv, hsp]
 obtain ⟨g1, g2⟩ := r1.tk
 refine ⟨lw, dx, oK, k1, ws, rfl, W1, l1, fun H2 s2 W2 => ?_⟩
 rw [← g1]
 have l2 := sbL s2 W1 l1
 refine ⟨_, rfl, _, rfl, lw, dx, oK, _, ws, (tk st1).2, rfl, W2, l2, hf, g2, fun t2 st2 e2 u2 H3 k3 s3 W3 r3 y3 => ?_, fun e2 H3 s3 => qn (by rw [e1]; show (vy n (tk st1).2).bind _ = none; rw [e2]; rfl) H3 (PL s1 (PL s2 s3))⟩
 have l3 := sbL s3 W2 l2
 obtain ⟨a2, C2, Ze, Zf, M2, ey2, h2, hl2, Mj, Ml⟩ := Am (P := P) (w := w) (base := base) T W3
 refine ⟨_, rfl, a2, C2, Ze, Zf, M2, ey2, h2, hl2, ?_⟩
 dsimp only [qT]
 rw [Mj, Ml]
 obtain ⟨g3, g4⟩ := r3.tk
 refine ⟨lw, dx, oK, k3, ws, rfl, W3, l3, fun H4 s4 W4 => ⟨rfl, ?_⟩⟩
 rw [← g3]
 have eR : ((vy n st).bind fun p => (vy n (tk p.2).2).bind fun q => Ss p q) = Ss (t1, st1) (t2, st2) := by
   rw [e1]; show (vy n (tk st1).2).bind _ = _; rw [e2]; rfl
 have nwT := nw T
 have ra : m8 A H4 t1 u1 := (((y1.sb nwT s2 W1).sb nwT s3 W2)).sb nwT s4 W3
 have rb : m8 A H4 t2 u2 := y3.sb nwT s4 W3
 have aeN : jf lw H H4 := PL (PL (PL s1 s2) s3) s4
 have sS : ∀ {a : Wd} {b : Str}, S a = b ↔ a = cd b := fun {a b} => ⟨fun e => by rw [← e, dq], fun e => by rw [e, fL]⟩
 have lg : (S (tk st1).1).length ≤ 100000 ∧ ∀ k ∈ cd (S (tk st1).1), k < 1000 := by
   have f := UG.fine hf k1
   rw [← g1] at f
   exact ⟨Nat.le_trans f.len (by decide), fun k hk => Nat.lt_of_lt_of_le (f.KY k hk) (Nat.le_refl _)⟩
 have raise : Ss (t1, st1) (t2, st2) = none → E (.ref A.fV) none H4 := fun e => qn (eR.trans e) H4 aeN
 generalize hcl : decide (V.str (S (tk st2).1) = V.str ‹")"›) = cl
 have hcl' : cl = true ↔ (tk st2).1 = Zg := by
   rw [← hcl, decide_eq_true_iff]
   exact ⟨fun e => sS.mp (V.str.inj e), fun e => by rw [sS.mpr e]⟩
 have made : ∀ o, cl = true → (tk st1).1 = cd (hw o) → ∀ (x Ry : Addr), H4 x = none → H4 Ry = none → Q (.ref x) (upd (upd H4 Ry (.own x)) x (.ins (cT A o) Ry [("one", u1), ("other", u2)])) := fun o c1 c2 x Ry nx nd => by
   have sm := yK nx nd (.ins (cT A o) Ry [("one", u1), ("other", u2)])
   refine qs (.two o t1 t2) (tk st2).2 ?_ _ _ _ (PL aeN (sbO sm)) (sm _ _ W4) g4 ⟨x, Ry, u1, u2, rfl, zD, ra.same sm, rb.same sm⟩
   rw [eR]
   unfold Ss
   cases o with
   | false => exact if_pos ⟨hcl'.mp c1, c2⟩
   | true =>
     rw [if_neg (fun e => by have := e.2.symm.trans c2; exact absurd this (by symm))]
     exact if_pos ⟨hcl'.mp c1, c2⟩
 have fail : (¬ (cl = true ∧ (tk st1).1 = W9)) → (¬ (cl = true ∧ (tk st1).1 = cOr)) → Ss (t1, st1) (t2, st2) = none := fun c1 c2 => by
   unfold Ss
   rw [if_neg (fun e => c1 ⟨hcl'.mpr e.1, e.2⟩), if_neg (fun e => c2 ⟨hcl'.mpr e.1, e.2⟩)]
 refine vp (fun σ' H' => H4 = H' ∧ (∃ a b, σ' = [some (.ref lw), some (.int (n : Nat)), a, some (.str (S (tk st1).1)), b, some (.bl cl)]) ∧ σ' = [some (.ref lw), some (.int (n : Nat)), some u1, some (.str (S (tk st1).1)), some u2, some (.bl cl)] ∧ ¬ (cl = true ∧ (tk st1).1 = W9)) ?kk ?mm
 case mm =>
   intro key
   refine ⟨_, rfl, _, rfl, du (fun c1 => ?_) (fun c1 => aM (key _ _ ⟨rfl, ⟨_, _, rfl⟩, rfl, fun e => c1 e.1⟩))⟩
   by_cases e : (tk st1).1 = W9
   · refine ⟨_, rfl, rfl, _, rfl, eqS (sS.mpr e) ?_⟩
     refine ⟨_, rfl, _, rfl, fun x dx nx nd ne => ⟨x, dx, _, _, false, rfl, zD, rfl, ?_⟩⟩
     rw [yH]
     exact made false c1 e x dx nx nd
   · exact ⟨_, rfl, rfl, _, rfl, neS (fun z => e (sS.mp z)) (key _ _ ⟨rfl, ⟨_, _, rfl⟩, rfl, fun z => e z.2⟩)⟩
 case kk =>
 rintro σ' H' ⟨rfl, _, rfl, hna⟩
 refine vp (fun σ' H' => H4 = H' ∧ σ' = [some (.ref lw), some (.int (n : Nat)), some u1, some (.str (S (tk st1).1)), some u2, some (.bl cl)] ∧ ¬ (cl = true ∧ (tk st1).1 = cOr)) ?k2 ?m2
 case m2 =>
   intro key
   refine ⟨_, rfl, _, rfl, du (fun c1 => ?_) (fun c1 => aM (key _ _ ⟨rfl, rfl, fun e => c1 e.1⟩))⟩
   by_cases e : (tk st1).1 = cOr
   · refine ⟨_, rfl, rfl, _, rfl, eqS (sS.mpr e) ?_⟩
     refine ⟨_, rfl, _, rfl, fun x dx nx nd ne => ⟨x, dx, _, _, true, rfl, zD, rfl, ?_⟩⟩
     rw [yH]
     exact made true c1 e x dx nx nd
   · exact ⟨_, rfl, rfl, _, rfl, neS (fun z => e (sS.mp z)) (key _ _ ⟨rfl, rfl, fun z => e z.2⟩)⟩
 case k2 =>
 rintro σ' H' ⟨rfl, rfl, hno⟩
 refine ⟨_, rfl, _, rfl, lg.1, lg.2, fun m => ?_⟩
 exact ⟨(by show 1 ≤ sizeLine; decide), raise (fail hna hno)⟩
end
end fX.Y
set_option maxHeartbeats 4000000
namespace fX.Y
open PySem L2
seal PE PT PW PA PS jG PG tE PI PO iV ir uT bL iW qU sy PC wD
local macro_rules | `(tactic| walk_at "rd1") => `(tactic| first
 | (refine And.intro rfl ?_)
 | (refine And.intro (by assumption) ?_)
 | (refine And.intro (fun _ e => e) ?_)
 | (refine And.intro (au.str _) ?_) | (refine And.intro (au.int _) ?_) | (refine And.intro (au.bl _) ?_) | (refine And.intro au.non ?_)
 | (refine cQ ?_) | (refine aM ?_)
 | (apply Exists.intro))
local macro_rules | `(tactic| walk_at "rd") => `(tactic| repeat (walk_at "rd1"))
def XD (ws : List Wd) : Option Tr := match vy 8 (some ws) with
 | some (t, some []) => if t.size ≤ 16 then some t else none
 | _ => none
def apK (A : dW) (K : W.Frag) : Sp := fun vs H Q E => ∃ x, vs = [x] ∧ ((∃ z, x = .str z ∧ bN 100000 z ∧ (∀ l ∈ cR (cd z), bN 1000 (S l)) ∧ (∀ t, XD (cR (cd z)) = some t → ∀ u H', aB H H' → m8 A H' t u → Q u H') ∧ (XD (cR (cd z)) = none → ∀ H', aB H H' → E (.ref A.fV) none H')) ∨
 (∃ t, Uw K H x t ∧ W.kitOne K t (.type "str") = some false ∧ ∀ H', aB H H' → E (.ref A.fV) none H'))
theorem neN {a b : Nat} {X Y : Prop} (h : a ≠ b) (k : Y) : if decide (V.int ((a : Nat) : Int) = V.int ((b : Nat) : Int)) = true then X else Y := by
 rw [if_neg (fun e => h (by have := V.int.inj (of_decide_eq_true e); omega))]; exact k
section
variable {P : Program} {w : World} {K : W.Frag} {mg : Str → Option Value} {base : Heap} {A : dW}
theorem Ao (T : Txt K mg A) : ∀ n : Nat, aF P w K mg base (vz P w) (2 * n + 5) A.jg A.lq ["left", "deepest"] (aeL A K n)
 | 0 => by
   have eF : aF P w K mg base (vz P w) 0 A.jg A.lq ["left", "deepest"] (fun _ _ _ _ => False) := ⟨fun vs H Q E h => h.elim, fun _ _ _ _ _ _ _ _ _ _ _ _ _ h => h.elim⟩
   have uK : aF P w K mg base (vz P w) 0 A.kZ A.oX ["left", "deepest"] (fun _ _ _ _ => False) := ⟨fun vs H Q E h => h.elim, fun _ _ _ _ _ _ _ _ _ _ _ _ _ h => h.elim⟩
   have uL := An (P := P) (w := w) (base := base) T
   have oM := HY (P := P) (w := w) (base := base) T
   refine T.CG.ZG mY (fun vs H Q E h => ?_) (fun cdv A0 outer s H vs Q E hr h => ?_)
   · obtain ⟨lw, dx, oK, k, ws, st, rfl, _⟩ := h
     rfl
   obtain ⟨lw, dx, oK, k0, ws, st, rfl, hW, hl, hf, hst, qs, qn⟩ := h
   obtain ⟨kt, hkt⟩ : ∃ kt : Nat, kt = 1 := ⟨1, rfl⟩
   refine ⟨_, (zC (yB (zQ yR (pv 1) zE (zS _)) (zF (xM T.j5 T.j6 (zA zJ zB) rfl)) zO)
     (zC (zY (i := 2) mY.nd rfl (by first | exact Or.inl rfl | exact Or.inr rfl) (yE (CX := cD) (k := kt) ‹hr› zM (pv 0)))
     (zC (yB (zQ yR (pv 2) zJ (zS _)) (zF (zG (yU T.Wm oM ‹hr› rfl T.ZZ T.ud .nil zM (zA (zI eF ‹hr› rfl T.lB T.lA T.lr .nil yg (zA (pv 0) (zA (zL m9 (pv 1) zE) zB))) zB)))) zO)
     (zC (yB (zQ yR (pv 2) zJ (zS _)) (zF (zG (zI uK ‹hr› rfl T.Cz T.Cy T.Cw .nil yg (zA (pv 0) (zA (zL m9 (pv 1) zE) zB))))) zO)
     (zF (zG (zI uL ‹hr› rfl T.Cv T.Cu T.Cr .nil yg (zA (pv 2) (zA (yE (CX := cD) (k := kt) ‹hr› zM (pv 0)) (zA (yE (CX := cD) (k := kt) ‹hr› zM (pv 0)) zB)))))))))), ?_⟩
   refine ⟨_, rfl, rfl, _, rfl, cQ ?_⟩
   exact ⟨(by show 1 ≤ sizeLine; decide), qn rfl _ sbR⟩
 | n + 1 => by
   have eF := Ao T n
   have uK := Mp T (by omega) eF
   have uL := An (P := P) (w := w) (base := base) T
   have oM := HY (P := P) (w := w) (base := base) T
   refine T.CG.ZG (k := 2 * n + 6) mY (fun vs H Q E h => ?_) (fun cdv A0 outer s H vs Q E hr h => ?_)
   · obtain ⟨lw, dx, oK, k, ws, st, rfl, _⟩ := h
     rfl
   obtain ⟨lw, dx, oK, k0, ws, st, rfl, hW, hl, hf, hst, qs, qn⟩ := h
   obtain ⟨kt, hkt⟩ : ∃ kt : Nat, kt = 1 := ⟨1, rfl⟩
   refine ⟨_, (zC (yB (zQ yR (pv 1) zE (zS _)) (zF (xM T.j5 T.j6 (zA zJ zB) rfl)) zO)
     (zC (zY (i := 2) mY.nd rfl (by first | exact Or.inl rfl | exact Or.inr rfl) (yE (CX := cD) (k := kt) ‹hr› zM (pv 0)))
     (zC (yB (zQ yR (pv 2) zJ (zS _)) (zF (zG (yU T.Wm oM ‹hr› rfl T.ZZ T.ud .nil zM (zA (zI eF ‹hr› rfl T.lB T.lA T.lr .nil yg (zA (pv 0) (zA (zL m9 (pv 1) zE) zB))) zB)))) zO)
     (zC (yB (zQ yR (pv 2) zJ (zS _)) (zF (zG (zI uK ‹hr› rfl T.Cz T.Cy T.Cw .nil yg (zA (pv 0) (zA (zL m9 (pv 1) zE) zB))))) zO)
     (zF (zG (zI uL ‹hr› rfl T.Cv T.Cu T.Cr .nil yg (zA (pv 2) (zA (yE (CX := cD) (k := kt) ‹hr› zM (pv 0)) (zA (yE (CX := cD) (k := kt) ‹hr› zM (pv 0)) zB)))))))))), ?_⟩
   subst hkt
   have em : ((n + 1 : Nat) : Int) - 1 = (n : Nat) := by omega
   refine ⟨_, rfl, rfl, _, rfl, neN (b := 0) (by omega) ?_⟩
   obtain ⟨a1, C1, Ib, Ie, M, ey, h1, hl1, hdv, hsp⟩ := Am (P := P) (w := w) (base := base) T hW
   refine ⟨_, rfl, a1, C1, Ib, Ie, M, ey, h1, hl1, ?_⟩
   dsimp only [qT]
   rw [hdv, hsp]
   obtain ⟨g1, g2⟩ := hst.tk
   refine ⟨lw, dx, oK, k0, ws, rfl, hW, hl, fun H1 s1 W1 => ?_⟩
   rw [← g1]
   have l1 := sbL s1 hW hl
   have sS : ∀ {a : Wd} {b : Str}, S a = b ↔ a = cd b := fun {a b} => ⟨fun e => by rw [← e, dq], fun e => by rw [e, fL]⟩
   by_cases c1 : (tk st).1 = PK
   · have eR : vy (n + 1) st = (vy n (tk st).2).map fun p => (.neg p.1, p.2) := if_pos c1
     refine ⟨_, rfl, rfl, _, rfl, eqS (sS.mpr c1) ?_⟩
     refine ⟨_, rfl, _, rfl, _, _, rfl, rfl, lw, dx, oK, k0 + 1, ws, (tk st).2, (by show [V.ref lw, V.int (((n + 1 : Nat) : Int) - 1)] = _; rw [em]), W1, l1, hf, g2, fun t1 st1 e1 u1 H2 k2 s2 W2 r2 y2 => ?_, fun e1 H2 s2 => qn (by rw [eR, e1]; rfl) H2 (PL s1 s2)⟩
     intro x Ry nx nd ne
     refine ⟨x, Ry, _, rfl, zD, rfl, ?_⟩
     rw [yH]
     have sm := yK nx nd (.ins A.oA Ry [("test", u1)])
     exact qs (.neg t1) st1 (by rw [eR, e1]; rfl) _ _ _ (PL (PL s1 s2) (sbO sm)) (sm _ _ W2) r2 ⟨x, Ry, u1, rfl, zD, y2.same sm⟩
   refine ⟨_, rfl, rfl, _, rfl, neS (fun e => c1 (sS.mp e)) ?_⟩
   by_cases c2 : (tk st).1 = XC
   · have eR : vy (n + 1) st = (vy n (tk st).2).bind fun p => (vy n (tk p.2).2).bind fun q => Ss p q := (if_neg c1).trans (if_pos c2)
     refine ⟨_, rfl, rfl, _, rfl, eqS (sS.mpr c2) ?_⟩
     exact ⟨_, rfl, _, rfl, _, _, rfl, rfl, lw, dx, oK, k0 + 1, ws, (tk st).2, (by show [V.ref lw, V.int (((n + 1 : Nat) : Int) - 1)] = _; rw [em]), W1, l1, hf, g2, fun t1 st1 e1 u1 H2 k2 s2 W2 r2 y2 => qs t1 st1 (eR.trans e1) u1 H2 k2 (PL s1 s2) W2 r2 y2, fun e1 H2 s2 => qn (eR.trans e1) H2 (PL s1 s2)⟩
   refine ⟨_, rfl, rfl, _, rfl, neS (fun e => c2 (sS.mp e)) ?_⟩
   have eR : vy (n + 1) st = (Uz (tk st).1 (tk (tk st).2).1 (tk (tk (tk st).2).2).1).map fun t => (t, (tk (tk (tk st).2).2).2) := (if_neg c1).trans (if_neg c2)
   obtain ⟨a2, C2, Ze, Zf, M2, ey2, h2, hl2, Mj, Ml⟩ := Am (P := P) (w := w) (base := base) T W1
   refine ⟨_, rfl, _, rfl, a2, C2, Ze, Zf, M2, ey2, h2, hl2, ?_⟩
   dsimp only [qT]
   rw [Mj, Ml]
   obtain ⟨g3, g4⟩ := g2.tk
   refine ⟨lw, dx, oK, _, ws, rfl, W1, l1, fun H2 s2 W2 => ?_⟩
   rw [← g3]
   have l2 := sbL s2 W1 l1
   obtain ⟨a3, C3, dx3, fs3, M3, ey3, h3, hl3, apL, apM⟩ := Am (P := P) (w := w) (base := base) T W2
   refine ⟨_, rfl, a3, C3, dx3, fs3, M3, ey3, h3, hl3, ?_⟩
   dsimp only [qT]
   rw [apL, apM]
   obtain ⟨g5, g6⟩ := g4.tk
   refine ⟨lw, dx, oK, _, ws, rfl, W2, l2, fun H3 s3 W3 => ?_⟩
   rw [← g5]
   have f1 := UG.fine hf k0
   have f2 := UG.fine hf (k0 + 1)
   have f3 := UG.fine hf (k0 + 1 + 1)
   rw [← g1] at f1
   rw [← g3] at f2
   rw [← g5] at f3
   exact ⟨_, _, _, rfl, f1, f2, f3, fun t e u H4 s4 y4 => qs t _ (by rw [eR, e]; rfl) u H4 _ (PL (PL (PL s1 s2) s3) (sbO s4)) (s4 _ _ W3) g6 y4, fun e H4 s4 => qn (by rw [eR, e]; rfl) H4 (PL (PL (PL s1 s2) s3) (sbO s4))⟩
theorem Ig (T : Txt K mg A) : aF P w K mg base (vz P w) 25 A.kh A.pL ["text"] (apK A K) := by
 have eF := Ao (P := P) (w := w) (base := base) T 8
 have uM := Rh (P := P) (w := w) (base := base) T
 have G_A := PJ (P := P) (w := w) (base := base) T 9
 refine T.Ja.ZG oJ (fun vs H Q E h => ?_) (fun cdv A0 outer s H vs Q E hr h => ?_)
 · obtain ⟨x, rfl, _⟩ := h
   rfl
 obtain ⟨x, rfl, hx⟩ := h
 obtain ⟨kt, hkt⟩ : ∃ kt : Nat, kt = 1 := ⟨1, rfl⟩
 obtain ⟨ka, hka⟩ : ∃ ka : Nat, ka = 10 := ⟨10, rfl⟩
 refine ⟨_, (zC (yB (yM (yA (zR yO (by rfl) T.aJ Bt.isinstance (zA (pv 0) (zA (xO (v := .ty "str") rfl T.oF Bt.str rfl) zB))))) (zF (xM T.j5 T.j6 (zA zJ zB) rfl)) zO)
     (zC (zY (i := 1) oJ.nd rfl (by first | exact Or.inl rfl | exact Or.inr rfl) (yU T.Ly uM ‹hr› rfl T.Ov T.ug .nil zM (zA (tL PySem.F.plainAttrs_str PySem.F.slot_str_split PySem.F.type_str_split NT (pv 0) (zA zJ zB)) zB)))
     (zC (zY (i := 2) oJ.nd rfl (by first | exact Or.inl rfl | exact Or.inr rfl) (zI eF ‹hr› rfl T.lB T.lA T.lr .nil yg (zA (pv 1) (zA (xL rfl T.T5) zB))))
     (zC (yB (PW.pt (xJ (yM (yA (yE (CX := cD) (k := kt) ‹hr› zM (pv 1)))) (xC (zQ Rx (zR yI (by rfl) T.jy PySem.boot_len (zA (yE (CX := cD) (k := ka) ‹hr› zM (pv 2)) zB)) (xL rfl T.Lj) (zS _))))) (zF (xM T.j5 T.j6 (zA (Ge (pv 0)) zB) rfl)) zO)
     (zF (zG (pv 2))))))), ?_⟩
 subst hkt
 subst hka
 rcases hx with ⟨z, rfl, hz, hf, qs, qn⟩ | ⟨t, ty, kt, q⟩
 · refine ⟨_, rfl, _, _, _, _, rfl, rfl, .old (.str _), T.qy, _, rfl, aM ?_⟩
   refine ⟨_, rfl, rfl, z, _, rfl, rfl, (by symm), hz.len, fun l hl => ?_⟩
   have ew : (Txt.split z ‹" "›).map V.str = wv (cR (cd z)) := by
     rw [show ‹" "› = S [32] by symm, N5, List.map_map]; rfl
   rw [ew] at *
   generalize hws : cR (cd z) = ws at *
   have sl := zK hl (.lst (wv ws))
   intro x dx nx nd ne
   refine ⟨x, dx, _, rfl, zD, rfl, ?_⟩
   rw [yH]
   have sm := yK nx nd (.ins A.az dx [("words", .ref l), ("taken", .int 0)])
   have W0 : uJ A (upd (upd (upd H l (.lst (wv ws))) dx (.own x)) x (.ins A.az dx [("words", .ref l), ("taken", .int 0)])) x dx l 0 := zD
   have l0 := sm _ _ (zD (H := H) (a := l) (o := .lst (wv ws)))
   have xH : H x = none := by
     cases e : H x with
     | none => rfl
     | some o => rw [sl x o e] at nx; cases nx
   have back : ∀ {H'}, jf x (upd (upd (upd H l (.lst (wv ws))) dx (.own x)) x (.ins A.az dx [("words", .ref l), ("taken", .int 0)])) H' → aB H H' := fun {H'} s2 b o hb => s2 _ _ (zV hb xH) (sm _ _ (sl _ _ hb))
   refine ⟨_, rfl, x, dx, l, 0, ws, some ws, rfl, W0, l0, hf, .inl ⟨rfl, Nat.zero_le _⟩, fun t st' e u H2 k' s2 W2 r2 y2 => ?_, fun e H2 s2 => qn (by unfold XD; rw [e]) H2 (back s2)⟩
   have l2 := sbL s2 W0 l0
   have hdp := Su e
   dsimp only [gf]
   refine vp (fun σ' H' => aB H H' ∧ (∃ v, σ' = [some (.str z), v, some u]) ∧ XD ws = some t ∧ m8 A H' t u) ?kk ?mm
   case kk =>
     rintro σ' H' ⟨s3, ⟨v, rfl⟩, e3, y3⟩
     exact ⟨_, rfl, qs t e3 u H' s3 y3⟩
   case mm =>
     intro key
     obtain ⟨a1, C1, Ib, Ie, M, ey, h1, hl1, hdv, hsp⟩ := Zi (P := P) (w := w) (base := base) T W2
     refine ⟨_, rfl, a1, C1, Ib, Ie, M, ey, h1, hl1, ?_⟩
     dsimp only [qT]
     rw [hdv, hsp]
     refine ⟨x, dx, l, k', ws, rfl, W2, l2, _, rfl, ?_⟩
     have fin : XD ws = none → ∀ H', aB H H' → E (.ref A.fV) none H' := qn
     by_cases hk : k' = ws.length
     · have es : st' = some [] := by
         rcases r2 with ⟨e1, _⟩ | ⟨_, e1⟩
         · rw [e1, hk, List.drop_length]
         · omega
       subst es
       rw [decide_eq_true hk]
       refine aM ?_
       obtain ⟨a2, C2, Ze, Zf, M2, ey2, h2, hl2, Mj, Ml⟩ := Al T G_A y2
       refine ⟨_, rfl, a2, C2, Ze, Zf, M2, ey2, h2, hl2, ?_⟩
       dsimp only [qT]
       rw [Mj]
       have az3 : t.size ≤ 256 := hdp.2
       refine Ml _ _ ⟨by omega, by omega, fun la ys H3 s3 e3 p3 => ?_⟩
       have eys : ys.length = t.size := by rw [xQ p3, vq]
       refine ⟨la, _, rfl, .inl (bz.of e3), _, _, rfl, rfl, _, rfl, ?_⟩
       have sB : aB H H3 := (back s2).trans s3
       by_cases h16 : t.size ≤ 16
       · rw [show decide ((16 : Int) < ((ys.length : Nat) : Int)) = false from decide_eq_false (by omega)]
         exact aM (key _ _ ⟨sB, ⟨_, rfl⟩, by unfold XD; rw [e]; exact if_pos h16, y2.same s3⟩)
       · rw [show decide ((16 : Int) < ((ys.length : Nat) : Int)) = true from decide_eq_true (by omega)]
         refine cQ ⟨_, rfl, z, rfl, hz.len, hz.KY, fun m => ?_⟩
         exact ⟨(by show 1 ≤ sizeLine; decide), fin (by unfold XD; rw [e]; exact if_neg h16) _ sB⟩
     · rw [decide_eq_false hk]
       refine cQ (cQ ⟨_, rfl, z, rfl, hz.len, hz.KY, fun m => ?_⟩)
       refine ⟨(by show 1 ≤ sizeLine; decide), fin ?_ _ (back s2)⟩
       unfold XD
       rw [e]
       rcases r2 with ⟨e1, e2⟩ | ⟨e1, _⟩
       · rw [e1]
         have : ws.drop k' ≠ [] := fun z => by
           have := congrArg List.length z
           rw [List.length_drop] at this
           have h0 : ([] : List Wd).length = 0 := rfl
           omega
         cases hd : ws.drop k' with
         | nil => exact absurd hd this
         | cons a r => rfl
       · rw [e1]
 · refine ⟨_, rfl, _, _, _, _, rfl, rfl, ty, kt, _, rfl, cQ ?_⟩
   exact ⟨(by show 1 ≤ sizeLine; decide), q _ (aB.refl _)⟩
end
end fX.Y
set_option maxHeartbeats 4000000
namespace fX.Y
open PySem L2
seal PE PT PW PA PS jG PG tE PI PO iV ir uT bL iW qU sy PC wD
local macro_rules | `(tactic| walk_at "rd1") => `(tactic| first
 | (refine And.intro rfl ?_)
 | (refine And.intro (by assumption) ?_)
 | (refine And.intro (fun _ e => e) ?_)
 | (refine And.intro (au.str _) ?_) | (refine And.intro (au.int _) ?_) | (refine And.intro (au.bl _) ?_) | (refine And.intro au.non ?_)
 | (refine cQ ?_) | (refine aM ?_)
 | (apply Exists.intro))
local macro_rules | `(tactic| walk_at "rd") => `(tactic| repeat (walk_at "rd1"))
theorem Xb {z : Str} (h : nameB z = true) : z ≠ "not" ∧ z ≠ "(" := by
 refine ⟨fun e => ?_, fun e => ?_⟩
 · rw [e] at h; exact absurd h (by symm)
 · rw [e] at h; exact absurd h (by symm)
theorem Sv {n : Str} (h : nameB n = true) : cd n ≠ PK ∧ cd n ≠ XC := ⟨fun e => (Xb h).1 (yY e), fun e => (Xb h).2 (yY e)⟩
theorem Sw {d : Nat} {x y z : Wd} {post : List Wd} (h1 : x ≠ PK) (h2 : x ≠ XC) : vy (d + 1) (some (x :: y :: z :: post)) = (Uz x y z).map fun t => (t, some post) := (if_neg h1).trans (if_neg h2)
theorem abB {n w : Str} (h : nameB n = true) (k : nameB w = true) : Uz (cd n) cIs (cd w) = some (.is n (.str w)) := by
 unfold Uz
 rw [if_pos ⟨by rw [fL]; exact h, rfl, by rw [fL]; exact k⟩, fL, fL]
theorem abC {h : Str} (hh : h = "<" ∨ h = "=" ∨ h = ">") : cd h ≠ cIs := by rcases hh with rfl | rfl | rfl <;> decide +kernel
theorem Zj {n h : Str} {m : Int} (hn : nameB n = true) (hh : h = "<" ∨ h = "=" ∨ h = ">") (hm : m.natAbs < 10 ^ 60) : Uz (cd n) (cd h) (cj m) = some (.cmp n h m) := by
 unfold Uz
 rw [if_neg (fun e => abC hh e.2.1), NK hm]
 show (if _ then _ else _) = _
 rw [if_pos ⟨by rw [fL]; exact hn, by rw [fL]; exact hh⟩, fL, fL]
theorem aeO {d : Nat} {ws : List Wd} : vy (d + 1) (some (XC :: ws)) = (vy d (some ws)).bind fun p => (vy d (tk p.2).2).bind fun q => Ss p q := (if_neg (show XC ≠ PK by symm)).trans (if_pos rfl)
theorem abD {d : Nat} {ws : List Wd} : vy (d + 1) (some (PK :: ws)) = (vy d (some ws)).map fun p => (.neg p.1, p.2) := if_pos rfl
theorem aeP (o : Bool) (a b : List Wd) (post : List Wd) : (XC :: (a ++ (cd (hw o) :: (b ++ [Zg])))) ++ post = XC :: (a ++ (cd (hw o) :: (b ++ (Zg :: post)))) := by simp [List.append_assoc]
theorem abE (o : Bool) (s t : Tr) (r post : List Wd) : Ss (s, some (cd (hw o) :: r)) (t, some (Zg :: post)) = some (.two o s t, some post) := by
 unfold Ss
 cases o with
 | false => exact if_pos ⟨rfl, rfl⟩
 | true => rw [if_neg (fun e => absurd (show cd (hw true) = W9 from e.2) (by symm))]; exact if_pos ⟨rfl, rfl⟩
theorem Fl {zs : List Str} : ∀ {t : Tr} {d : Nat} {post : List Wd}, t.Ok zs → t.depth ≤ d → vy d (some (wL t ++ post)) = some (t, some post)
 | .is n v, d, post, h, hd => by
   obtain ⟨h1, w, rfl, h2⟩ := h
   obtain ⟨d, rfl⟩ : ∃ e, d = e + 1 := ⟨d - 1, by have : (1 : Nat) ≤ d := hd; omega⟩
   show vy (d + 1) (some (cd n :: cIs :: cd w :: post)) = _
   rw [Sw (Sv h1).1 (Sv h1).2, abB h1 h2]; rfl
 | .cmp n x m, d, post, h, hd => by
   obtain ⟨h1, h2, h3⟩ := h
   obtain ⟨d, rfl⟩ : ∃ e, d = e + 1 := ⟨d - 1, by have : (1 : Nat) ≤ d := hd; omega⟩
   show vy (d + 1) (some (cd n :: cd x :: cj m :: post)) = _
   rw [Sw (Sv h1).1 (Sv h1).2, Zj h1 h2 h3]; rfl
 | .neg t, d, post, h, hd => by
   have hd' : t.depth + 1 ≤ d := hd
   obtain ⟨d, rfl⟩ : ∃ e, d = e + 1 := ⟨d - 1, by omega⟩
   show vy (d + 1) (some (PK :: (wL t ++ post))) = _
   rw [abD, Fl (t := t) h (by omega)]; rfl
 | .two o s t, d, post, h, hd => by
   have hd' : 1 + max s.depth t.depth ≤ d := hd
   obtain ⟨d, rfl⟩ : ∃ e, d = e + 1 := ⟨d - 1, by omega⟩
   show vy (d + 1) (some ((XC :: (wL s ++ (cd (hw o) :: (wL t ++ [Zg])))) ++ post)) = _
   rw [aeP, aeO, Fl h.1 (by omega)]
   show (vy d (some (wL t ++ (Zg :: post)))).bind _ = _
   rw [Fl h.2 (by omega)]
   exact abE o s t _ post
structure BW (w : Wd) : Prop where
 n1 : w ≠ PK
 n2 : w ≠ XC
 n3 : w ≠ Zg
 n4 : w ≠ cIs
 n5 : nameB (S w) = false
 n6 : fM w 60 = none
 n7 : ¬ (S w = "<" ∨ S w = "=" ∨ S w = ">")
end fX.Y
set_option maxHeartbeats 4000000
namespace fX.Y
open PySem L2
seal PE PT PW PA PS jG PG tE PI PO iV ir uT bL iW qU sy PC wD
local macro_rules | `(tactic| walk_at "rd1") => `(tactic| first
 | (refine And.intro rfl ?_)
 | (refine And.intro (by assumption) ?_)
 | (refine And.intro (fun _ e => e) ?_)
 | (refine And.intro (au.str _) ?_) | (refine And.intro (au.int _) ?_) | (refine And.intro (au.bl _) ?_) | (refine And.intro au.non ?_)
 | (refine cQ ?_) | (refine aM ?_)
 | (apply Exists.intro))
local macro_rules | `(tactic| walk_at "rd") => `(tactic| repeat (walk_at "rd1"))
abbrev w' (z : String) : Wd := cd (Str.ofString z)
def FW (ws : List Wd) : Prop := ∀ l ∈ ws, bN 1000 (S l) ∧ 32 ∉ l
def FL (n : Nat) (l : List Nat) : Prop := l.length ≤ n ∧ ∀ c ∈ l, c < 1000
theorem FL.fine {n : Nat} {l : List Nat} (h : FL n l) : bN n (S l) := ⟨by rw [zW]; exact h.1, fun c hc => by rw [dq] at hc; exact h.2 c hc⟩
theorem Km : ∀ {ws : List Wd}, (∀ l ∈ ws, ∀ c ∈ l, c < 1000) → ∀ c ∈ aR [32] ws, c < 1000
 | [], _, c, hc => by cases hc
 | [x], h, c, hc => h x (List.mem_singleton.mpr rfl) c hc
 | x :: y :: r, h, c, hc => by
   rw [xE (by simp)] at hc
   rcases List.mem_append.mp hc with e | e
   · rcases List.mem_append.mp e with e | e
     · exact h x List.mem_cons_self c e
     · rw [List.mem_singleton.mp e]; decide
   · exact Km (ws := y :: r) (fun l hl => h l (List.mem_cons_of_mem _ hl)) c e
theorem FW.fine {ws : List Wd} (h : FW ws) {n : Nat} (hl : (aR [32] ws).length ≤ n) : bN n (S (aR [32] ws)) := by
 refine FL.fine ⟨hl, Km fun l hl' c hc => ?_⟩
 have := (h l hl').1.KY c (by rw [dq]; exact hc)
 exact this
theorem FW.split {ws : List Wd} (h : FW ws) (hn : ws ≠ []) : cR (cd (S (aR [32] ws))) = ws := by
 rw [dq]; exact uX hn fun p hp => (h p hp).2
theorem FW.app {a b : List Wd} (h : FW a) (k : FW b) : FW (a ++ b) := fun l hl => by
 rcases List.mem_append.mp hl with e | e
 · exact h l e
 · exact k l e
theorem FW.cons {a : Wd} {b : List Wd} (h : bN 1000 (S a) ∧ 32 ∉ a) (k : FW b) : FW (a :: b) := fun l hl => by
 rcases List.mem_cons.mp hl with e | e
 · rw [e]; exact h
 · exact k l e
theorem FW.nil : FW [] := fun l hl => by cases hl
theorem Sx {z : Str} (h1 : z.length ≤ 1000) (h2 : ∀ c ∈ cd z, c < 1000 ∧ c ≠ 32) : bN 1000 (S (cd z)) ∧ 32 ∉ cd z := ⟨by rw [fL]; exact ⟨h1, fun c hc => (h2 c hc).1⟩, fun e => (h2 32 e).2 rfl⟩
theorem Mq {z : Str} (h : nameB z = true) : bN 1000 (S (cd z)) ∧ 32 ∉ cd z := Sx (Nat.le_trans (qI h).1 (by decide)) fun c hc => by have := (dO h).2.2 c hc; omega
theorem Xc {m : Int} (h : m.natAbs < 10 ^ 60) : bN 1000 (S (cj m)) ∧ 32 ∉ cj m := ⟨⟨by rw [zW]; have := lD h; omega, fun c hc => by rw [dq] at hc; rcases Gj hc with z | z <;> omega⟩, fun e => by rcases Gj e with z | z <;> omega⟩
theorem abF {h : Str} (hh : h = "<" ∨ h = "=" ∨ h = ">") : bN 1000 (S (cd h)) ∧ 32 ∉ cd h := by
 rcases hh with rfl | rfl | rfl <;> exact Sx (by symm) (by symm)
theorem aeQ (o : Bool) : bN 1000 (S (cd (hw o))) ∧ 32 ∉ cd (hw o) := by cases o <;> exact Sx (by symm) (by symm)
theorem Zk (z : String) (h : (Str.ofString z).length ≤ 1000 ∧ ∀ c ∈ cd (Str.ofString z), c < 1000 ∧ c ≠ 32 := by symm) : bN 1000 (S (w' z)) ∧ 32 ∉ w' z := Sx h.1 h.2
theorem Sy {zs : List Str} : ∀ {t : Tr}, t.Ok zs → FW (wL t)
 | .is n v, h => by
   obtain ⟨h1, u, rfl, h2⟩ := h
   exact FW.cons (Mq h1) (FW.cons (Zk "is") (FW.cons (Mq h2) FW.nil))
 | .cmp n x m, h => FW.cons (Mq h.1) (FW.cons (abF h.2.1) (FW.cons (Xc h.2.2) FW.nil))
 | .neg t, h => FW.cons (Zk "not") (Sy (t := t) h)
 | .two o s t, h => FW.cons (Zk "(") ((Sy h.1).app (FW.cons (aeQ o) ((Sy h.2).app (FW.cons (Zk ")") FW.nil))))
theorem bnd {t : Tr} (h1 : t.depth ≤ 8) (h2 : t.size ≤ 16) : t.size * t.depth ≤ 1000 := Nat.le_trans (Nat.mul_le_mul h2 h1) (by decide)
theorem Xd {zs : List Str} {t : Tr} (h : t.Ok zs) (h1 : t.depth ≤ 8) (h2 : t.size ≤ 16) : XD (wL t) = some t := by
 have := Fl (post := []) h h1
 rw [List.append_nil] at this
 unfold XD
 rw [this]
 exact if_pos h2
def apO : Sp := fun vs H Q _ => ∃ n : Int, vs = [.int n] ∧ n.natAbs < 10 ^ 60 ∧ Q (.str (S (cU n))) H
def Mx (l : List Nat) : Str := if S l ∈ KW then S l ++ ‹"x"› else S l
def Lt (n : Nat) (l : List Nat) : Prop := l.length ≤ n ∧ 1 ≤ l.length ∧ ∀ c ∈ l, 97 ≤ c ∧ c ≤ 122
def aeR : Sp := fun vs H Q _ => ∃ l : List Nat, vs = [.str (S l)] ∧ Lt 12 l ∧ ∀ H', aB H H' → Q (.str (Mx l)) H'
def apP : Sp := fun vs H Q _ => ∃ c : Int, vs = [.int c] ∧ ∀ (ws : List Str) H', 2 ≤ ws.length → ws.length ≤ 6 → ws.Nodup → (∀ z ∈ ws, nameB z = true) → aB H H' → Q (.str (S (aR [32] (ws.map cd)))) H'
def apQ : Sp := fun vs H Q _ => ∃ c : Int, vs = [.int c] ∧ ∀ ku H', CW ku → aB H H' → Q (.str (S (Ik ku))) H'
theorem PN {l : List Nat} (h : Lt 12 l) : nameB (Mx l) = true := by
 unfold Mx
 by_cases c : S l ∈ KW
 · rw [if_pos c]; exact aeD _ c
 · rw [if_neg c]; exact Sd h c
theorem Zm {l m : List Nat} (h : l.length = m.length) (e : Mx l = Mx m) : l = m := by
 unfold Mx at e
 by_cases c : S l ∈ KW <;> by_cases d : S m ∈ KW
 · rw [if_pos c, if_pos d] at e
   have := congrArg cd e
   rw [yF, yF] at this
   exact List.append_cancel_right this
 · rw [if_pos c, if_neg d] at e
   have := congrArg Str.length e
   rw [zX, zW, zW, show ‹"x"›.length = 1 by symm] at this
   omega
 · rw [if_neg c, if_pos d] at e
   have := congrArg Str.length e
   rw [zX, zW, zW, show ‹"x"›.length = 1 by symm] at this
   omega
 · rw [if_neg c, if_neg d] at e
   exact ZF e
theorem Xe {L : List Nat} {f : Nat → List Nat} (h : L.Nodup) (hf : ∀ a b, (f a).length = (f b).length) (hi : ∀ a b, f a = f b → a = b) : (L.map fun c => Mx (f c)).Nodup :=
 List.pairwise_map.mpr (h.imp fun n e => n (hi _ _ (Zm (hf _ _) e)))
def LL (L : List Nat) : Prop := L.Nodup ∧ 2 ≤ L.length ∧ L.length ≤ 6 ∧ ∀ c ∈ L, 97 ≤ c ∧ c ≤ 122
theorem apR (k : Int) (h0 : 0 ≤ k) (h1 : k < 5) : LL (nA (cd ‹"fedcba"›) (some k) none) := by
 unfold LL
 rcases (by omega : k = 0 ∨ k = 1 ∨ k = 2 ∨ k = 3 ∨ k = 4) with rfl | rfl | rfl | rfl | rfl <;> decide +kernel
theorem apS (k : Int) (h0 : 0 ≤ k) (h1 : k < 5) : LL (nA (cd ‹"abcdef"›) none (some (2 + k))) := by
 unfold LL
 rcases (by omega : k = 0 ∨ k = 1 ∨ k = 2 ∨ k = 3 ∨ k = 4) with rfl | rfl | rfl | rfl | rfl <;> decide +kernel
theorem aeS {l : List Nat} (h : Lt 12 l) : Lt 11 (nA l none (some 11)) := by
 have e : nA l none (some 11) = l.take (min 11 l.length) := by
   unfold nA
   have e1 : HT.tH l.length 0 none = 0 := rfl
   have e2 : HT.tH l.length l.length (some 11) = min 11 l.length := by
     show (if (11 : Int) < 0 then ((11 : Int) + l.length).toNat else min (11 : Int).toNat l.length) = _
     rw [if_neg (by decide)]; rfl
   rw [e1, e2, List.drop_zero, Nat.sub_zero]
 have h1 := h.2.1
 rw [e]
 exact ⟨by rw [List.length_take]; omega, by rw [List.length_take]; omega, fun c hc => h.2.2 c (List.mem_of_mem_take hc)⟩
theorem PQ {ws : List Str} (h : ∀ z ∈ ws, nameB z = true) (h6 : ws.length ≤ 6) : (ws.map (·.length)).sum + ws.length * ‹" "›.length ≤ 16777216 := by
 have hs := HD (n := 12) (l := ws) fun z hz => (qI (h z hz)).1
 rw [show ‹" "›.length = 1 by symm]; omega
theorem Ko {ws : List Str} (h : ∀ z ∈ ws, nameB z = true) (h6 : ws.length ≤ 6) : (aR [32] (ws.map cd)).length ≤ 100 := by
 have hs := HD (n := 12) (l := ws) fun z hz => (qI (h z hz)).1
 have hj := fX.m7 [32] (ws.map cd)
 have e1 : ((ws.map cd).map List.length).sum = (ws.map (·.length)).sum := by
   rw [List.map_map]; exact congrArg List.sum (List.map_congr_left fun z _ => (yD z).symm)
 rw [e1, List.length_map, show [32].length = 1 from rfl] at hj
 omega
theorem Kp {L : List Nat} {f : Nat → Str} {i c : Nat} (h : L[i]? = some c) : ((L.take i).map f).map V.str ++ [V.str (f c)] = ((L.take (i + 1)).map f).map V.str := by
 rw [List.take_succ, h, List.map_append, List.map_append]; rfl
section
variable {P : Program} {w : World} {K : W.Frag} {mg : Str → Option Value} {base : Heap} {A : dW}
theorem Mr (T : Txt K mg A) : aF P w K mg base cD 1 A.oZ A.tV ["_law_number_here"] apO := by
 refine T.Oq.ok Ai (fun vs H Q E h => ?_) (fun cdv A0 outer s H vs Q E hr h => ?_)
 · obtain ⟨n, rfl, _⟩ := h
   rfl
 obtain ⟨n, rfl, hn, q⟩ := h
 refine ⟨_, (zC (zY (i := 1) Ai.nd rfl (by first | exact Or.inl rfl | exact Or.inr rfl) (tL PySem.F.plainAttrs_str PySem.F.slot_str_zfill PySem.F.type_str_zfill Nj (yL yT (by rfl) T.oF Bt.str (zA (zR MT (by rfl) T.ZP Bt.abs (zA (pv 0) zB)) zB)) (zA zE zB)))
     (zC (yB (zQ MK (pv 0) zE (zS _)) (zF (zG (zL zH (zL zH (zL zH zJ (yW pD (pv 1) xG (xA (vI pC zE)))) zJ) (yW pD (pv 1) (xA (vI pC zE)) xG)))) zO)
     (zF (zG (zL zH (zL zH (yW pD (pv 1) xG (xA (vI pC zE))) zJ) (yW pD (pv 1) (xA (vI pC zE)) xG)))))), ?_⟩
 have hl := qe (dig n.natAbs)
 have hd := uW (k := 60) (by decide) hn
 have ef : (dU n).length = (q9 (dig n.natAbs)).length := rfl
 refine ⟨_, rfl, n, rfl, ?_⟩
 rw [Wu]
 refine ⟨_, rfl, RP (Nat.lt_trans (show (((n.natAbs : Nat) : Int)).natAbs < 10 ^ 60 by omega) (by symm)), ?_⟩
 rw [R5]
 refine ⟨rfl, _, _, rfl, rfl, (by symm), ?_⟩
 rw [Ke]
 have sz : (S (dU n)).length ≤ sizeLine := zN (m := 1000) (by rw [zW]; omega)
 unfold cU sgn at q
 refine ⟨_, rfl, _, _, rfl, rfl, _, rfl, du (fun c => ?_) (fun c => ?_)⟩
 · rw [if_pos (of_decide_eq_true c)] at q
   refine ⟨_, rfl, _, rfl, _, rfl, _, rfl, sz, ?_⟩
   rw [dq, Q6 (f := q9 (dig n.natAbs)) (by omega)]
   refine ⟨_, _, rfl, rfl, zN (m := 1000) (by rw [zW, List.length_take]; show 1 + _ ≤ 1000; omega), _, _, rfl, rfl, zN (m := 1000) (by rw [zX, zW, List.length_take]; show 1 + _ + 1 ≤ 1000; omega), ?_⟩
   refine ⟨_, rfl, _, rfl, _, rfl, _, rfl, sz, ?_⟩
   rw [dq, Q7 (f := q9 (dig n.natAbs)) (by omega), show ‹"."› = S [46] by symm, show ‹"-"› = S [45] by symm, xN, xN]
   refine ⟨_, _, rfl, rfl, zN (m := 1000) (by rw [zW, zW, List.length_append, List.length_append, List.length_take, List.length_drop]; show 1 + _ + 1 + _ ≤ 1000; omega), ?_⟩
   rw [xN, List.append_assoc, List.append_assoc]
   exact q
 · rw [if_neg (fun z => c (decide_eq_true z))] at q
   refine ⟨_, rfl, _, rfl, _, rfl, _, rfl, sz, ?_⟩
   rw [dq, Q6 (f := q9 (dig n.natAbs)) (by omega)]
   refine ⟨_, _, rfl, rfl, zN (m := 1000) (by rw [zW, List.length_take]; show _ + 1 ≤ 1000; omega), ?_⟩
   refine ⟨_, rfl, _, rfl, _, rfl, _, rfl, sz, ?_⟩
   rw [dq, Q7 (f := q9 (dig n.natAbs)) (by omega), show ‹"."› = S [46] by symm, xN]
   refine ⟨_, _, rfl, rfl, zN (m := 1000) (by rw [zW, zW, List.length_append, List.length_take, List.length_drop]; show _ + 1 + _ ≤ 1000; omega), ?_⟩
   rw [xN, List.append_assoc]
   exact q
theorem Rj (T : Txt K mg A) : aF P w K mg base cD 1 A.ou A.rA ["_law_word"] aeR := by
 refine T.Ha.ok CT (fun vs H Q E h => ?_) (fun cdv A0 outer s H vs Q E hr h => ?_)
 · obtain ⟨l, rfl, _⟩ := h
   rfl
 obtain ⟨L, rfl, h1, q⟩ := h
 refine ⟨_, (zC (yB (zQ pY (pv 0) (yZ (zA zJ (zA zJ (zA zJ (zA zJ (zA zJ (zA zJ (zA zJ (zA zJ zB))))))))) (by rfl)) (zF (zG (zL zH (pv 0) zJ))) zO)
     (zF (zG (pv 0)))), ?_⟩
 refine ⟨_, rfl, (by show 8 ≤ sizeLine; decide), fun p2 hp2 => ⟨p2, _, rfl, .inl (bz.of zD), rfl, rfl, _, rfl, ?_⟩⟩
 have q := q _ (zK hp2 (.lst (KW.map V.str)))
 show if (inV (.str (S L)) (KW.map V.str)) = true then _ else _
 rw [uF]
 unfold Mx at q
 refine du (fun c => ?_) (fun c => ?_)
 · have c' : S L ∈ KW := of_decide_eq_true c
   rw [if_pos c'] at q
   exact ⟨_, rfl, _, _, rfl, rfl, zN (m := 100) (by have := W5 _ c'; rw [show ‹"x"›.length = 1 by symm]; omega), q⟩
 · rw [if_neg (fun z => c (decide_eq_true z))] at q
   exact ⟨_, rfl, q⟩
theorem Jz (T : Txt K mg A) : aF P w K mg base cD 3 A.mR A.rD ["_law_cell"] apP := by
 have j7 := uH (P := P) (w := w) (base := base) T
 have cu := mZ (P := P) (w := w) (base := base) T
 have rW := Rj (P := P) (w := w) (base := base) T
 refine T.Le.ok wj (fun vs H Q E h => ?_) (fun cdv A0 outer s H vs Q E hr h => ?_)
 · obtain ⟨c, rfl, _⟩ := h
   rfl
 obtain ⟨c, rfl, q⟩ := h
 refine ⟨_, (zC (zY (i := 1) wj.nd rfl (by first | exact Or.inl rfl | exact Or.inr rfl) (yW pD (zI j7 ‹hr› rfl T.rM T.rK T.rJ .nil zM (zA (zI cu ‹hr› rfl T.dI T.dH T.dG .nil zM (zA (pv 0) (zA zE zB))) zB)) xG (xA zE)))
     (zC (yB (zQ yR (zL yP (zL mH (pv 0) zE) zE) zE (zS _)) (zF (zG (tL PySem.F.plainAttrs_str PySem.F.slot_str_join PySem.F.type_str_join KJ zJ (zA (xU (yQ (x := "_law_sign") (M := ["_law_cell", "_law_word"]) rfl (by rfl)) rfl (Ay (yW pD zJ (xA (zL yP (zL mH (pv 0) zE) zE)) xG)) (fun _ _ _ _ => (zI rW ‹hr› rfl T.wZ T.wY T.wX .nil zM (zA (zL zH (pv 0) (pv 2)) zB)))) zB)))) zO)
     (zF (zG (tL PySem.F.plainAttrs_str PySem.F.slot_str_join PySem.F.type_str_join KJ zJ (zA (xU (yQ (x := "_law_sign") (M := ["_law_cell", "_law_word"]) rfl (by rfl)) rfl (Ay (yW pD zJ xG (xA (zL qR zE (zL yP (zL mH (pv 0) zE) zE))))) (fun _ _ _ _ => (zI rW ‹hr› rfl T.wZ T.wY T.wX .nil zM (zA (zL zH (pv 2) (pv 0)) zB)))) zB)))))), ?_⟩
 refine ⟨_, rfl, c, 3, rfl, by decide, by decide, fun r _ _ => ⟨r, rfl, fun z H1 hz s1 => ?_⟩⟩
 have lz := dO hz
 have lz' : Lt 12 (cd z) := ⟨by rw [← yD]; exact lz.1, by rw [← yD]; exact lz.2.1, lz.2.2⟩
 refine ⟨_, rfl, _, rfl, zN (m := 100) (by have := lz.1; omega), ?_⟩
 have hW := aeS lz'
 generalize nA (cd z) none (some 11) = W at hW
 have m0 : 0 ≤ c / 5 % 5 := Int.emod_nonneg _ (by decide)
 have m1 : c / 5 % 5 < 5 := Int.emod_lt_of_pos _ (by decide)
 have hW1 : W.length ≤ 11 := hW.1
 have aeT : ∀ d : Nat, (S [d]).length = 1 := fun d => by rw [zW]; rfl
 refine ⟨_, rfl, _, _, rfl, rfl, ⟨by decide, by decide⟩, _, _, rfl, rfl, (by show (0 : Int) < 2; decide), rfl, _, rfl, du (fun _ => ?_) (fun _ => ?_)⟩
 · refine ⟨rfl, _, rfl, _, _, rfl, rfl, ⟨by decide, by decide⟩, _, _, rfl, rfl, (by show (0 : Int) < 5; decide), _, rfl, _, rfl, (by symm), _, rfl, ?_⟩
   have hL := apR _ m0 m1
   dsimp only
   generalize nA (cd ‹"fedcba"›) (some (c / 5 % 5)) none = L at hL
   have hn : ∀ d ∈ L, Lt 12 (d :: W) := fun d hd => ⟨by rw [List.length_cons]; omega, by rw [List.length_cons]; omega, fun x hx => by
     rcases List.mem_cons.mp hx with e | e
     · rw [e]; exact hL.2.2.2 d hd
     · exact hW.2.2 x e⟩
   refine p6 (x := S L) (zN (m := 6) (by rw [zW]; exact hL.2.2.1)) (fun i ys H' => aB H1 H' ∧ ys = ((L.take i).map fun d => Mx (d :: W)).map V.str) ⟨aB.refl _, rfl⟩ (fun i d ys H' hd _ hw => ?_) (fun ys H' _ hw p hp => ?_)
   · obtain ⟨sH, rfl⟩ := hw
     have hd : L[i]? = some d := hd
     refine ⟨_, rfl, _, rfl, _, _, rfl, rfl, zN (m := 100) (by rw [aeT, zW]; omega), ?_⟩
     rw [xN]
     exact ⟨d :: W, rfl, hn d (List.mem_of_getElem? hd), fun H2 s2 => ⟨sH.trans s2, Kp (f := fun d => Mx (d :: W)) hd⟩⟩
   · obtain ⟨sH, rfl⟩ := hw
     rw [zW, List.take_length]
     have hw : ∀ z ∈ L.map (fun d => Mx (d :: W)), nameB z = true := fun z hz => by
       obtain ⟨d, hd, rfl⟩ := List.mem_map.mp hz; exact PN (hn d hd)
     have h6 : (L.map fun d => Mx (d :: W)).length ≤ 6 := by rw [List.length_map]; exact hL.2.2.1
     refine ⟨_, p, L.map fun d => Mx (d :: W), rfl, rfl, .inl (bz.of zD), PQ hw h6, ?_⟩
     rw [pZ, show cd ‹" "› = [32] by symm]
     exact q _ _ (by rw [List.length_map]; exact hL.2.1) h6 (Xe hL.1 (fun a b => rfl) (fun a b e => (List.cons.inj e).1)) hw (s1.trans (sH.trans (zK hp _)))
 · refine ⟨rfl, _, rfl, _, _, rfl, rfl, ⟨by decide, by decide⟩, _, _, rfl, rfl, (by show (0 : Int) < 5; decide), _, _, rfl, rfl, _, rfl, _, rfl, (by symm), _, rfl, ?_⟩
   have hL := apS _ m0 m1
   dsimp only
   generalize nA (cd ‹"abcdef"›) none (some (2 + c / 5 % 5)) = L at hL
   have hn : ∀ d ∈ L, Lt 12 (W ++ [d]) := fun d hd => ⟨by rw [List.length_append]; show _ + 1 ≤ 12; omega, by rw [List.length_append]; show 1 ≤ _ + 1; omega, fun x hx => by
     rcases List.mem_append.mp hx with e | e
     · exact hW.2.2 x e
     · rw [List.mem_singleton.mp e]; exact hL.2.2.2 d hd⟩
   refine p6 (x := S L) (zN (m := 6) (by rw [zW]; exact hL.2.2.1)) (fun i ys H' => aB H1 H' ∧ ys = ((L.take i).map fun d => Mx (W ++ [d])).map V.str) ⟨aB.refl _, rfl⟩ (fun i d ys H' hd _ hw => ?_) (fun ys H' _ hw p hp => ?_)
   · obtain ⟨sH, rfl⟩ := hw
     have hd : L[i]? = some d := hd
     refine ⟨_, rfl, _, rfl, _, _, rfl, rfl, zN (m := 100) (by rw [aeT, zW]; omega), ?_⟩
     rw [xN]
     exact ⟨W ++ [d], rfl, hn d (List.mem_of_getElem? hd), fun H2 s2 => ⟨sH.trans s2, Kp (f := fun d => Mx (W ++ [d])) hd⟩⟩
   · obtain ⟨sH, rfl⟩ := hw
     rw [zW, List.take_length]
     have hw : ∀ z ∈ L.map (fun d => Mx (W ++ [d])), nameB z = true := fun z hz => by
       obtain ⟨d, hd, rfl⟩ := List.mem_map.mp hz; exact PN (hn d hd)
     have h6 : (L.map fun d => Mx (W ++ [d])).length ≤ 6 := by rw [List.length_map]; exact hL.2.2.1
     refine ⟨_, p, L.map fun d => Mx (W ++ [d]), rfl, rfl, .inl (bz.of zD), PQ hw h6, ?_⟩
     rw [pZ, show cd ‹" "› = [32] by symm]
     exact q _ _ (by rw [List.length_map]; exact hL.2.1) h6 (Xe hL.1 (fun a b => by rw [List.length_append, List.length_append]; rfl) (fun a b e => (List.cons.inj (List.append_cancel_left e)).1)) hw (s1.trans (sH.trans (zK hp _)))
theorem PX (T : Txt K mg A) : aF P w K mg base cD 4 A.rE A.wI ["_law_cell"] apQ := by
 have rZ := wu (P := P) (w := w) (base := base) T
 have cu := mZ (P := P) (w := w) (base := base) T
 have CZ := Mr (P := P) (w := w) (base := base) T
 have Ms := Jz (P := P) (w := w) (base := base) T
 refine T.QH.ok o9 (fun vs H Q E h => ?_) (fun cdv A0 outer s H vs Q E hr h => ?_)
 · obtain ⟨c, rfl, _⟩ := h
   rfl
 obtain ⟨c, rfl, q⟩ := h
 refine ⟨_, (zC (zY (i := 1) o9.nd rfl (by first | exact Or.inl rfl | exact Or.inr rfl) (zI rZ ‹hr› rfl T.zr T.zq T.zp .nil zM (zA (zI cu ‹hr› rfl T.dI T.dH T.dG .nil zM (zA (pv 0) (zA zE zB))) zB)))
     (zC (zY (i := 2) o9.nd rfl (by first | exact Or.inl rfl | exact Or.inr rfl) (zL qR (pv 1) (zL yP (zL Ar (zI cu ‹hr› rfl T.dI T.dH T.dG .nil zM (zA (pv 0) (zA zE zB))) zE) (zL qR (zL m9 (zL Ar zE zE) (pv 1)) zE))))
     (zC (yB (zQ yR (zL yP (zL mH (pv 0) zE) zE) zE (zS _)) (zF (zY (i := 2) o9.nd rfl (by first | exact Or.inl rfl | exact Or.inr rfl) (zL qR (pv 1) (zL yP (zL mH (pv 0) zE) zE)))) zO)
     (zC (yB (zQ yR (zL yP (pv 0) zE) zE (zS _)) (zF (zG zJ)) zO)
     (zC (yB (zQ yR (zL yP (pv 0) zE) zE (zS _)) (zF (zG (zL zH (zL zH (zL zH zJ (yL yT (by rfl) T.oF Bt.str (zA (pv 1) zB))) zJ) (yL yT (by rfl) T.oF Bt.str (zA (pv 2) zB))))) zO)
     (zC (yB (zQ yR (zL yP (pv 0) zE) zE (zS _)) (zF (zG (zL zH (zL zH (zL zH zJ (zI CZ ‹hr› rfl T.CN T.CK T.CJ .nil zM (zA (pv 1) zB))) zJ) (zI CZ ‹hr› rfl T.CN T.CK T.CJ .nil zM (zA (pv 2) zB))))) zO)
     (zC (yB (zQ yR (zL yP (pv 0) zE) zE (zS _)) (zF (zG (zL zH zJ (zI Ms ‹hr› rfl T.Lh T.Lg T.Lf .nil zM (zA (pv 0) zB))))) zO)
     (zF (zG (zL zH zJ (yL yT (by rfl) T.oF Bt.str (zA (zL qR zE (zL yP (zL mH (pv 0) zE) zE)) zB)))))))))))), ?_⟩
 refine ⟨_, rfl, c, 1, rfl, by decide, by decide, fun r1 a0 a1 => ⟨_, rfl, by omega, fun lo l0 l1 => ?_⟩⟩
 have e59 : (10 : Int) ^ (59 : Int).toNat = 10 ^ 59 := rfl
 have b59 : (1000 : Int) < 10 ^ 59 := by symm
 refine ⟨_, rfl, _, rfl, c, 2, rfl, by decide, by decide, fun r2 b0 b1 => ?_⟩
 have hp : (0 : Int) < 10 ^ (59 : Int).toNat - lo + 1 := by rw [e59]; generalize (10 : Int) ^ 59 = y at *; omega
 refine ⟨_, _, rfl, rfl, ⟨by decide, by decide, by omega⟩, _, _, rfl, rfl, ⟨by decide, by decide, by decide⟩, _, rfl, _, _, rfl, rfl, _, _, rfl, rfl, _, _, rfl, rfl, hp, _, _, rfl, rfl, ?_⟩
 have h0 := Int.emod_nonneg (r2 ^ (7 : Int).toNat) (b := 10 ^ (59 : Int).toNat - lo + 1) (by omega)
 have h1 := Int.emod_lt_of_pos (r2 ^ (7 : Int).toNat) hp
 dsimp only [gf]
 refine vp (fun σ' H2 => H = H2 ∧ ∃ hi : Int, lo ≤ hi ∧ hi ≤ 10 ^ 59 ∧ σ' = [some (.int c), some (.int lo), some (.int hi)]) ?k1 ?e1
 case e1 =>
   intro key
   refine ⟨_, rfl, _, _, rfl, rfl, ⟨by decide, by decide⟩, _, _, rfl, rfl, (by show (0 : Int) < 3; decide), rfl, _, rfl, du (fun _ => ?_) (fun _ => ?_)⟩
   · have x0 : 0 ≤ c / 15 % 2 := Int.emod_nonneg _ (by decide)
     have x1 : c / 15 % 2 < 2 := Int.emod_lt_of_pos _ (by decide)
     exact ⟨_, rfl, _, rfl, _, _, rfl, rfl, ⟨by decide, by decide⟩, _, _, rfl, rfl, (by show (0 : Int) < 2; decide), _, _, rfl, rfl, key _ _ ⟨rfl, _, by show lo ≤ lo + c / 15 % 2; omega, by show lo + c / 15 % 2 ≤ 10 ^ 59; omega, rfl⟩⟩
   · refine key _ _ ⟨rfl, _, ?_, ?_, rfl⟩
     · omega
     · rw [e59] at h0 h1 ⊢
       generalize r2 ^ (7 : Int).toNat % (10 ^ 59 - lo + 1) = x at *
       generalize (10 : Int) ^ 59 = y at *
       omega
 case k1 =>
 rintro σ' H2 ⟨rfl, hi, c1, c2, rfl⟩
 have T9 : lo.natAbs < 10 ^ 60 := n60 l0 (by omega)
 have nhi : hi.natAbs < 10 ^ 60 := n60 (by omega) c2
 have k6 : ‹"whole "›.length = 6 := by symm
 have k6' : ‹"money "›.length = 6 := by symm
 have k1' : ‹" "›.length = 1 := by symm
 refine ⟨_, rfl, _, _, rfl, rfl, (by show (0 : Int) < 5; decide), rfl, _, rfl, du (fun _ => ?_) (fun _ => ?_)⟩
 · have q := q .yn _ trivial (aB.refl _)
   rw [show Ik .yn = cd ‹"yesno"› from rfl, fL] at q
   exact q
 refine ⟨_, rfl, _, _, rfl, rfl, (by show (0 : Int) < 5; decide), rfl, _, rfl, du (fun _ => ?_) (fun _ => ?_)⟩
 · have q := q (.wh lo hi) _ ⟨c1, T9, nhi⟩ (aB.refl _)
   have ll := lD T9
   have lh := lD nhi
   refine ⟨_, rfl, _, rfl, Ia T9, ?_⟩
   rw [str_is]
   refine ⟨_, _, rfl, rfl, zN (m := 1000) (by rw [zW]; omega), _, _, rfl, rfl, zN (m := 1000) (by rw [zX, zW]; omega), _, rfl, _, rfl, Ia nhi, ?_⟩
   rw [str_is]
   refine ⟨_, _, rfl, rfl, zN (m := 1000) (by rw [zX, zX, zW, zW]; omega), ?_⟩
   have e : ‹"whole "› ++ S (cj lo) ++ ‹" "› ++ S (cj hi) = S (Ik (.wh lo hi)) := yY (by
     rw [yF, yF, yF, show cd ‹" "› = [32] by symm]
     show cd ‹"whole "› ++ cj lo ++ [32] ++ cj hi = cd ‹"whole "› ++ (cj lo ++ [32] ++ cj hi)
     simp only [List.append_assoc])
   rw [e]; exact q
 refine ⟨_, rfl, _, _, rfl, rfl, (by show (0 : Int) < 5; decide), rfl, _, rfl, du (fun _ => ?_) (fun _ => ?_)⟩
 · have q := q (.mo lo hi) _ ⟨c1, T9, nhi⟩ (aB.refl _)
   have ll : (cU lo).length ≤ 65 := by have := (Gp T9).len; rwa [zW] at this
   have lh : (cU hi).length ≤ 65 := by have := (Gp nhi).len; rwa [zW] at this
   refine ⟨_, rfl, lo, rfl, T9, ?_⟩
   refine ⟨_, _, rfl, rfl, zN (m := 1000) (by rw [zW]; omega), _, _, rfl, rfl, zN (m := 1000) (by rw [zX, zW]; omega), _, rfl, hi, rfl, nhi, ?_⟩
   refine ⟨_, _, rfl, rfl, zN (m := 1000) (by rw [zX, zX, zW, zW]; omega), ?_⟩
   have e : ‹"money "› ++ S (cU lo) ++ ‹" "› ++ S (cU hi) = S (Ik (.mo lo hi)) := yY (by
     rw [yF, yF, yF, show cd ‹" "› = [32] by symm]
     show cd ‹"money "› ++ cU lo ++ [32] ++ cU hi = cd ‹"money "› ++ (cU lo ++ [32] ++ cU hi)
     simp only [List.append_assoc])
   rw [e]; exact q
 refine ⟨_, rfl, _, _, rfl, rfl, (by show (0 : Int) < 5; decide), rfl, _, rfl, du (fun _ => ?_) (fun _ => ?_)⟩
 · refine ⟨_, rfl, c, rfl, fun ws H2 w2 w6 wn wv s2 => ?_⟩
   have lw := Ko wv w6
   refine ⟨_, _, rfl, rfl, zN (m := 1000) (by rw [zW, show ‹"pick "›.length = 5 by symm]; omega), ?_⟩
   have e : ‹"pick "› ++ S (aR [32] (ws.map cd)) = S (Ik (.pk ws)) := yY (by rw [yF]; rfl)
   rw [e]
   exact q (.pk ws) _ ⟨w2, w6, wn, wv⟩ s2
 · have x0 : 0 ≤ c / 5 % 6 := Int.emod_nonneg _ (by decide)
   have x1 : c / 5 % 6 < 6 := Int.emod_lt_of_pos _ (by decide)
   obtain ⟨m, hm⟩ : ∃ m : Nat, 1 + c / 5 % 6 = (m : Int) := ⟨(1 + c / 5 % 6).toNat, by omega⟩
   have p60 : (100 : Nat) < 10 ^ 60 := by symm
   have nm : ((m : Nat) : Int).natAbs < 10 ^ 60 := by omega
   have lm := lD nm
   refine ⟨_, rfl, _, _, rfl, rfl, ⟨by decide, by decide⟩, _, _, rfl, rfl, (by show (0 : Int) < 6; decide), _, _, rfl, rfl, _, rfl, Ia (by show (1 + c / 5 % 6).natAbs < 10 ^ 60; omega), ?_⟩
   dsimp only
   rw [hm, str_is]
   refine ⟨_, _, rfl, rfl, zN (m := 1000) (by rw [zW, show ‹"names "›.length = 6 by symm]; omega), ?_⟩
   have e : ‹"names "› ++ S (cj (m : Int)) = S (Ik (.nm m)) := yY (by rw [yF]; rfl)
   rw [e]
   exact q (.nm m) _ ⟨by omega, by omega⟩ (aB.refl _)
end
end fX.Y
set_option maxHeartbeats 4000000
namespace fX.Y
open PySem L2
seal PE PT PW PA PS jG PG tE PI PO iV ir uT bL iW qU sy PC wD
local macro_rules | `(tactic| walk_at "rd1") => `(tactic| first
 | (refine And.intro rfl ?_)
 | (refine And.intro (by assumption) ?_)
 | (refine And.intro (fun _ e => e) ?_)
 | (refine And.intro (au.str _) ?_) | (refine And.intro (au.int _) ?_) | (refine And.intro (au.bl _) ?_) | (refine And.intro au.non ?_)
 | (refine cQ ?_) | (refine aM ?_)
 | (apply Exists.intro))
local macro_rules | `(tactic| walk_at "rd") => `(tactic| repeat (walk_at "rd1"))
theorem uN {H : Hp} {a b : Addr} {o : HO} (h : upd H a o b = none) : b ≠ a ∧ H b = none := by
 by_cases e : b = a
 · subst e; rw [zD] at h; cases h
 · exact ⟨e, by rw [zP e] at h; exact h⟩
def Fr (M : List Addr) (H H' : Hp) : Prop := ∀ b o, H b = some o → b ∉ M → H' b = some o
theorem Fr.of {M : List Addr} {H H' : Hp} (s : aB H H') : Fr M H H' := fun b o h _ => s b o h
theorem Fr.trans {M : List Addr} {H H' Df : Hp} (a : Fr M H H') (b : Fr M H' Df) : Fr M H Df := fun x o h n => b x o (a x o h n) n
theorem Fr.upd {M : List Addr} {H H' : Hp} (a : Fr M H H') {m : Addr} (h : m ∈ M) (o : HO) : Fr M H (upd H' m o) := fun x u hx n => by
 rw [zP (fun e => n (by rw [e]; exact h))]; exact a x u hx n
theorem Fr.new {M : List Addr} {H H' : Hp} (a : Fr M H H') {m : Addr} (h : H' m = none) (o : HO) : Fr M H (L2.upd H' m o) := fun x u hx n => by
 have := a x u hx n
 rw [zP (zV this h)]; exact this
theorem Fr.more {M M' : List Addr} {H H' : Hp} (a : Fr M H H') (h : ∀ m ∈ M, m ∈ M') : Fr M' H H' := fun x u hx n => a x u hx fun e => n (h x e)
theorem Rk {c : Bool} {A B : Prop} (h : c = false) (k : B) : if c = true then A else B := by rw [if_neg (by rw [h]; decide)]; exact k
theorem Us {x a : Addr} (h : x ≠ a) : x ∉ [a] := fun e => h (List.mem_singleton.mp e)
theorem nd {v : V} : (!decide (v = v)) = false := by rw [decide_eq_true rfl]; rfl
theorem nl {a b : Nat} (h : a = b) : (!decide (V.int (a : Nat) = V.int (b : Nat))) = false := by rw [h]; exact nd
abbrev Wy := Str × Option Tr
def GT (t : Tr) : Prop := t.Ok [] ∧ t.depth ≤ 4 ∧ t.size ≤ 8
theorem GT.b {t : Tr} (h : GT t) : t.depth ≤ 8 ∧ t.size ≤ 16 ∧ t.size * t.depth ≤ 32 := by
 have h2 : t.size * t.depth ≤ 8 * 4 := Nat.mul_le_mul h.2.2 h.2.1
 have h3 := h.2.1
 have h4 := h.2.2
 exact ⟨by omega, by omega, by omega⟩
def OSy (A : dW) (H : Hp) : Option Tr → V → Prop
 | none, v => v = .non
 | some t, v => m8 A H t v
def ov : Option Tr → V
 | none => .non
 | some t => .str (S (pA t))
def eV : Option Str → V
 | none => .non
 | some e => .str e
theorem OSy.same {A : dW} {H H' : Hp} (f : aB H H') {o : Option Tr} {v : V} (h : OSy A H o v) : OSy A H' o v := by
 cases o with
 | none => exact h
 | some t => exact m8.same (t := t) f h
abbrev JB (A : dW) (dx : Addr) (u1 u2 u3 : V) : HO := .ins A.mj dx [("name", u1), ("kind", u2), ("when", u3)]
abbrev Xf (A : dW) (dx : Addr) (u1 u2 u3 : V) : HO := .ins A.fc dx [("name", u1), ("test", u2), ("firm", u3)]
abbrev oSh (A : dW) (dx : Addr) (u1 u2 : V) (q1 q2 : Addr) : HO := .ins A.jw dx [("name", u1), ("each", u2), ("rows", .ref q1), ("ways", .ref q2)]
abbrev oPa (A : dW) (dx : Addr) (u1 : V) (q1 q2 : Addr) : HO := .ins A.iT dx [("name", u1), ("sheets", .ref q1), ("totals", .ref q2)]
def WyR (A : dW) (H : Hp) (x : V) (c : Wy) : Prop := ∃ a v, x = .ref a ∧ H a = some (.tup [.str c.1, v]) ∧ OSy A H c.2 v
def LWy (H : Hp) (x : V) (c : Wy) : Prop := ∃ a, x = .ref a ∧ H a = some (.tup [.str c.1, ov c.2])
def Zn (K : W.Frag) (H : Hp) (x : V) (z : Str) : Prop := ∃ a C dx fs, x = .ref a ∧ H a = some (.ins C dx fs) ∧ uU K C ∧ aD K C "name" ∧ fs.lookup ‹"name"› = some (.str z)
theorem Zn.same {K : W.Frag} {H H' : Hp} (f : aB H H') {x : V} {z : Str} (h : Zn K H x z) : Zn K H' x z := let ⟨a, C, dx, fs, e, h1, h2⟩ := h; ⟨a, C, dx, fs, e, f _ _ h1, h2⟩
theorem Rm {X : Cx} {H : Hp} (n : Nat) (z : Str) : Nt X H n (.str z) (.str z) true := by
 have := Nu (X := X) (H := H) (n := n) (x := .str z) (y := .str z) rfl rfl
 rw [Nx rfl] at this
 exact this
def abG (K : W.Frag) : Sp := fun vs H Q _ => ∃ p C dx u1, vs = [.ref p, u1] ∧ H p = some (.ins C dx []) ∧ uU K C ∧ aD K C "name" ∧ Q .non (upd H p (.ins C dx [("name", u1)]))
def abH (A : dW) : Sp := fun vs H Q _ => ∃ p dx u1 u2 u3, vs = [.ref p, u1, u2, u3] ∧ H p = some (.ins A.mj dx []) ∧ Q .non (upd H p (JB A dx u1 u2 u3))
def aeV (A : dW) : Sp := fun vs H Q _ => ∃ p dx u1 u2 u3, vs = [.ref p, u1, u2, u3] ∧ H p = some (.ins A.fc dx []) ∧ Q .non (upd H p (Xf A dx u1 u2 u3))
def Xg (A : dW) (K : W.Frag) : Sp := fun vs H Q _ => ∃ p dx u1 u2 l1 l2 xs ys, vs = [.ref p, u1, u2, .ref l1, .ref l2] ∧ H p = some (.ins A.jw dx []) ∧ H l1 = some (.lst xs) ∧ H l2 = some (.lst ys) ∧
 ∀ q1 q2 H', q1 ≠ q2 → H q1 = none → H q2 = none → Fr [p] H H' → H' p = some (oSh A dx u1 u2 q1 q2) → H' q1 = some (.lst xs) → H' q2 = some (.lst ys) → Q .non H'
def P0 (H : Hp) (x : V) (z y : Str) : Prop := ∃ a pl b c, x = .ref a ∧ H a = some (.tup [.str z, .ref pl]) ∧ H pl = some (.lst [.ref b, .ref c]) ∧ H b = some (.tup [.int 2, .str y]) ∧ H c = some (.tup [.int (-3), .non])
theorem P0.same {H H' : Hp} (f : aB H H') {x : V} {z y : Str} (h : P0 H x z y) : P0 H' x z y := let ⟨a, pl, b, c, e, h1, h2, h3, h4⟩ := h; ⟨a, pl, b, c, e, f _ _ h1, f _ _ h2, f _ _ h3, f _ _ h4⟩
def Xh (A : dW) (K : W.Frag) : Sp := fun vs H Q _ => ∃ p dx u1 l1 l2 xs u z y, vs = [.ref p, u1, .ref l1, .ref l2] ∧ H p = some (.ins A.iT dx []) ∧ H l1 = some (.lst xs) ∧ H l2 = some (.lst [u]) ∧ P0 H u z y ∧
 ∀ q1 q2 v H', Fr [p] H H' → H' p = some (oPa A dx u1 q1 q2) → H' q1 = some (.lst xs) → H' q2 = some (.lst [v]) → P0 H' v z y → Q .non H'
def apU : Sp := fun vs H Q _ => ∃ z, vs = [.str z, .str z] ∧ Q (.bl true) H
def apV (A : dW) : Sp := fun vs H Q _ => ∃ a dx z kp ku v o, vs = [.ref a, .str z, .str (S (Ik ku)), ov o] ∧ H a = some (JB A dx (.str z) (.ref kp) v) ∧ st A ku H kp ∧ ku.Good ∧ OSy A H o v ∧ (∀ t, o = some t → GT t) ∧ ∀ H', aB H H' → Q (.bl true) H'
def apW (A : dW) : Sp := fun vs H Q _ => ∃ a dx z v t f, vs = [.ref a, .str z, .str (S (pA t)), .bl f] ∧ H a = some (Xf A dx (.str z) v (.bl f)) ∧ m8 A H t v ∧ GT t ∧ Q (.bl true) H
def apY (A : dW) (K : W.Frag) : Sp := fun vs H Q _ => ∃ (a dx : Addr) (z : Str) (e : Option Str) (q1 q2 p1 p2 : Addr) (L wr wl : List V) (N : List Str) (ws : List Wy), vs = [.ref a, .str z, eV e, .ref p1, .ref p2] ∧ H a = some (oSh A dx (.str z) (eV e) q1 q2) ∧ H q1 = some (.lst L) ∧ H q2 = some (.lst wr) ∧ H p1 = some (.lst (N.map V.str)) ∧ H p2 = some (.lst wl) ∧ Paired (Zn K H) L N ∧ Paired (WyR A H) wr ws ∧ Paired (LWy H) wl ws ∧ (∀ c ∈ ws, ∀ t, c.2 = some t → GT t) ∧ L.length ≤ 10 ∧ ∀ H', aB H H' → Q (.bl true) H'
def aeW : Sp := fun vs H Q _ => ∃ c : Int, vs = [.int c] ∧ ∀ t H', t.Ok [] → t.depth = 1 → t.size = 1 → aB H H' → Q (.str (S (pA t))) H'
def Z8 (n : Nat) : Sp := fun vs H Q _ => ∃ (c : Int) (d : Nat), vs = [.int c, .int (d : Nat)] ∧ d ≤ 3 ∧ d < n ∧ ∀ t H', t.Ok [] → t.depth ≤ d + 1 → t.size ≤ 2 ^ d → aB H H' → Q (.str (S (pA t))) H'
theorem Xi {n y h : Str} {m : Int} (e : cd y = cd ‹" "› ++ cd h ++ cd ‹" "›) : (n ++ y) ++ ((toString m : String) : Str) = S (pA (.cmp n h m)) := yY (by
 rw [yF, yF, Qy, dq, Mi, e]
 simp only [List.append_assoc])
theorem Xj {y : Str} {o : Bool} {s t : Tr} (e : cd y = cd ‹" "› ++ cd (hw o) ++ cd ‹" "›) : (((Str.ofString "( " ++ S (pA s)) ++ y) ++ S (pA t)) ++ ‹" )"› = S (pA (.two o s t)) := yY (by
 rw [yF, yF, yF, yF, dq, dq, dq, Fj, e]
 simp only [List.append_assoc])
theorem m3 (r : Int) : r % 3 = ((0 : Nat) : Int) ∨ r % 3 = ((1 : Nat) : Int) ∨ r % 3 = ((2 : Nat) : Int) := by omega
section
variable {P : Program} {w : World} {K : W.Frag} {mg : Str → Option Value} {base : Heap} {A : dW}
theorem Qa (T : Txt K mg A) : aF P w K mg base cD 3 A.rF A.wJ ["_law_cell"] aeW := by
 have j7 := uH (P := P) (w := w) (base := base) T
 have cu := mZ (P := P) (w := w) (base := base) T
 have rZ := wu (P := P) (w := w) (base := base) T
 refine T.QM.ok uB (fun vs H Q E h => ?_) (fun cdv A0 outer s H vs Q E hr h => ?_)
 · obtain ⟨c, rfl, _⟩ := h
   rfl
 obtain ⟨c, rfl, q⟩ := h
 refine ⟨_, (zC (zY (i := 1) uB.nd rfl (by first | exact Or.inl rfl | exact Or.inr rfl) (zI j7 ‹hr› rfl T.rM T.rK T.rJ .nil zM (zA (zI cu ‹hr› rfl T.dI T.dH T.dG .nil zM (zA (pv 0) (zA zE zB))) zB)))
     (zC (yB (zQ yR (zL yP (pv 0) zE) zE (zS _)) (zC (zY (i := 2) uB.nd rfl (by first | exact Or.inl rfl | exact Or.inr rfl) (yC zU (yZ (zA zJ (zA zJ (zA (zI j7 ‹hr› rfl T.rM T.rK T.rJ .nil zM (zA (zI cu ‹hr› rfl T.dI T.dH T.dG .nil zM (zA (pv 0) (zA zE zB))) zB)) zB)))) (zL yP (zI cu ‹hr› rfl T.dI T.dH T.dG .nil zM (zA (pv 0) (zA zE zB))) zE) (fun _ _ => rfl)))
     (zF (zG (zL zH (zL zH (pv 1) zJ) (pv 2))))) zO)
     (zF (zG (zL zH (zL zH (pv 1) (yC zU (yZ (zA zJ (zA zJ (zA zJ zB)))) (zL yP (zI cu ‹hr› rfl T.dI T.dH T.dG .nil zM (zA (pv 0) (zA zE zB))) zE) (fun _ _ => rfl))) (yL yT (by rfl) T.oF Bt.str (zA (zI rZ ‹hr› rfl T.zr T.zq T.zp .nil zM (zA (zI cu ‹hr› rfl T.dI T.dH T.dG .nil zM (zA (pv 0) (zA zE zB))) zB)) zB))))))), ?_⟩
 refine ⟨_, rfl, c, 4, rfl, by decide, by decide, fun r _ _ => ⟨r, rfl, fun z H1 hz s1 => ?_⟩⟩
 have lz := (qI hz).len
 refine ⟨_, rfl, _, _, rfl, rfl, (by show (0 : Int) < 2; decide), rfl, _, rfl, du (fun _ => ?_) (fun _ => ?_)⟩
 · refine ⟨_, rfl, c, 5, rfl, by decide, by decide, fun r5 _ _ => ⟨r5, rfl, fun z2 H2 hz2 s2 => ⟨(by show 3 ≤ sizeLine; decide), fun p hp => ?_⟩⟩⟩
   have s3 := zK hp (.lst [.str ‹"yes"›, .str ‹"no"›, .str z2])
   refine ⟨_, rfl, c, 6, rfl, by decide, by decide, fun r6 _ _ => ?_⟩
   obtain ⟨u, hu, hu2⟩ : ∃ u : Str, wB [V.str ‹"yes"›, .str ‹"no"›, .str z2] (r6 % 3) = some (.str u) ∧ nameB u = true := by
     rcases m3 r6 with e | e | e <;> rw [e]
     · exact ⟨_, yG rfl, by symm⟩
     · exact ⟨_, yG rfl, by symm⟩
     · exact ⟨_, yG rfl, hz2⟩
   have lu := (qI hu2).len
   refine ⟨_, _, rfl, rfl, (by show (0 : Int) < 3; decide), p, _, _, _, rfl, rfl, bz.of zD, hu, ?_⟩
   refine ⟨_, rfl, _, _, rfl, rfl, zN (m := 100) (by rw [show ‹" is "›.length = 4 by symm]; omega), _, rfl, _, _, rfl, rfl, zN (m := 100) (by rw [zX, show ‹" is "›.length = 4 by symm]; omega), ?_⟩
   rw [W8]
   exact q (.is z (.str u)) _ ⟨hz, u, rfl, hu2⟩ rfl rfl (s1.trans (s2.trans s3))
 · refine ⟨_, rfl, (by show 3 ≤ sizeLine; decide), fun p hp => ⟨_, rfl, c, 6, rfl, by decide, by decide, fun r6 _ _ => ?_⟩⟩
   have s3 := zK hp (.lst [.str ‹" < "›, .str ‹" = "›, .str ‹" > "›])
   obtain ⟨y, h, hy, hh, e⟩ : ∃ y h : Str, wB [V.str ‹" < "›, .str ‹" = "›, .str ‹" > "›] (r6 % 3) = some (.str y) ∧ (h = "<" ∨ h = "=" ∨ h = ">") ∧ cd y = cd ‹" "› ++ cd h ++ cd ‹" "› := by
     rcases m3 r6 with e | e | e <;> rw [e]
     · exact ⟨_, "<", yG rfl, .inl rfl, by symm⟩
     · exact ⟨_, "=", yG rfl, .inr (.inl rfl), by symm⟩
     · exact ⟨_, ">", yG rfl, .inr (.inr rfl), by symm⟩
   have ly : y.length = 3 := by
     rw [yD, e, List.length_append, List.length_append, (Rf hh).1]; decide +kernel
   refine ⟨_, _, rfl, rfl, (by show (0 : Int) < 3; decide), p, _, _, _, rfl, rfl, bz.of zD, hy, _, _, rfl, rfl, zN (m := 100) (by omega), ?_⟩
   refine ⟨_, rfl, c, 7, rfl, by decide, by decide, fun r7 r0 r1 => ⟨_, rfl, by omega, fun m hm1 hm2 => have hm := n60 hm1 (Int.le_of_lt hm2); ⟨_, rfl, Ia hm, _, _, rfl, rfl, zN (m := 1000) ?_, ?_⟩⟩⟩
   · have := lD hm
     rw [zX, yD (x := ((toString m : String) : Str)), Qy]; omega
   · rw [Xi e]
     exact q (.cmp z h m) _ ⟨hz, hh, hm⟩ rfl rfl (s1.trans s3)
theorem wy (T : Txt K mg A) : ∀ n : Nat, aF P w K mg base cD (n + 4) A.mU A.rG ["_law_cell", "_law_deep"] (Z8 n)
 | 0 => by
   have len : ∀ (vs : List V) (H : Hp) (Q : VK) (E : XK), Z8 0 vs H Q E → False := fun vs H Q E h => by
     obtain ⟨c, d, rfl, _, hd, _⟩ := h
     exact absurd hd (by omega)
   exact ⟨fun vs H Q E h => (len _ _ _ _ h).elim, fun _ _ _ _ _ _ _ _ _ _ _ _ _ h => (len _ _ _ _ h).elim⟩
 | n + 1 => by
   have m5 := wy T n
   have Rn := Qa (P := P) (w := w) (base := base) T
   have cu := mZ (P := P) (w := w) (base := base) T
   refine T.Li.ok kW (fun vs H Q E h => ?_) (fun cdv A0 outer s H vs Q E hr h => ?_)
   · obtain ⟨c, d, rfl, _⟩ := h
     rfl
   obtain ⟨c, d, rfl, d1, dn, q⟩ := h
   refine ⟨_, (zC (zY (i := 2) kW.nd rfl (by first | exact Or.inl rfl | exact Or.inr rfl) (zL yP (pv 0) zE))
     (zC (yB (PW.pt (xJ (zQ yR (pv 1) zE (zS _)) (xC (zQ MK (pv 2) zE (zS _))))) (zF (zG (zI Rn ‹hr› rfl T.QS T.QR T.QQ .nil zM (zA (pv 0) zB)))) zO)
     (zC (zY (i := 3) kW.nd rfl (by first | exact Or.inl rfl | exact Or.inr rfl) (zI m5 ‹hr› rfl T.rP T.rO T.rN .nil zM (zA (zI cu ‹hr› rfl T.dI T.dH T.dG .nil zM (zA (pv 0) (zA zE zB))) (zA (zL m9 (pv 1) zE) zB))))
     (zC (yB (zQ yR (pv 2) zE (zS _)) (zF (zG (zL zH zJ (pv 3)))) zO)
     (zC (zY (i := 4) kW.nd rfl (by first | exact Or.inl rfl | exact Or.inr rfl) (zI m5 ‹hr› rfl T.rP T.rO T.rN .nil zM (zA (zI cu ‹hr› rfl T.dI T.dH T.dG .nil zM (zA (pv 0) (zA zE zB))) (zA (zL m9 (pv 1) zE) zB))))
     (zF (zG (zL zH (zL zH (zL zH (zL zH zJ (pv 3)) (yC zU (yZ (zA zJ (zA zJ zB))) (zL yP (pv 2) zE) (fun _ _ => rfl))) (pv 4)) zJ)))))))), ?_⟩
   refine ⟨_, rfl, _, _, rfl, rfl, (by show (0 : Int) < 6; decide), ?_⟩
   have p1 : 1 ≤ 2 ^ d := Nat.one_le_two_pow
   have atom : ∀ t H', t.Ok [] → t.depth = 1 → t.size = 1 → aB H H' → Q (.str (S (pA t))) H' := fun t H' a b e f => q t H' a (by omega) (by omega) f
   refine ⟨_, rfl, rfl, _, rfl, du (fun _ => ⟨_, rfl, c, rfl, atom⟩) (fun c0 => ⟨_, rfl, _, _, rfl, rfl, _, rfl, du (fun _ => ⟨_, rfl, c, rfl, atom⟩) (fun c1 => ?_)⟩)⟩
   obtain ⟨e, rfl⟩ : ∃ e, d = e + 1 := by
     cases d with
     | zero => exact absurd (decide_eq_true rfl) c0
     | succ e => exact ⟨e, rfl⟩
   have es : (((e + 1 : Nat) : Int) - 1) = ((e : Nat) : Int) := by omega
   have pe : 2 ^ (e + 1) = 2 ^ e + 2 ^ e := by rw [Nat.pow_succ]; omega
   have p8 : 2 ^ e ≤ 2 ^ 2 := Nat.pow_le_pow_right (by decide) (by omega : e ≤ 2)
   have bl : ∀ {t : Tr}, t.Ok [] → t.depth ≤ e + 1 → t.size ≤ 2 ^ e → (pA t).length ≤ 1600 := fun {t} o p z => by
     have := rY o
     have h2 : t.size * t.depth ≤ 4 * 4 := Nat.mul_le_mul (by omega) (by omega)
     omega
   refine ⟨_, rfl, c, 8, rfl, by decide, by decide, fun r8 _ _ => ⟨_, rfl, _, _, rfl, rfl, r8, e, by rw [← es]; rfl, by omega, by omega, fun t1 H1 o1 p1 z1 s1 => ?_⟩⟩
   have l1 := bl o1 p1 z1
   refine ⟨_, rfl, rfl, _, rfl, du (fun _ => ?_) (fun _ => ?_)⟩
   · refine ⟨_, rfl, _, _, rfl, rfl, zN (m := 10000) (by rw [zW, show ‹"not "›.length = 4 by symm]; omega), ?_⟩
     rw [Sq]
     exact q (.neg t1) _ o1 (by show t1.depth + 1 ≤ e + 1 + 1; omega) (by show t1.size ≤ _; omega) s1
   · refine ⟨_, rfl, c, 9, rfl, by decide, by decide, fun r9 _ _ => ⟨_, rfl, _, _, rfl, rfl, r9, e, by rw [← es]; rfl, by omega, by omega, fun t2 H2 o2 p2 z2 s2 => ?_⟩⟩
     have l2 := bl o2 p2 z2
     have k1 : ‹"( "›.length = 2 := by symm
     have k2 : ‹" )"›.length = 2 := by symm
     obtain ⟨y, o, hy, ey⟩ : ∃ (y : Str) (o : Bool), wB [V.str ‹" and "›, .str ‹" or "›] (c % 6 % 2) = some (.str y) ∧ cd y = cd ‹" "› ++ cd (hw o) ++ cd ‹" "› := by
       rcases (by omega : c % 6 % 2 = ((0 : Nat) : Int) ∨ c % 6 % 2 = ((1 : Nat) : Int)) with e | e <;> rw [e]
       · exact ⟨_, false, yG rfl, by symm⟩
       · exact ⟨_, true, yG rfl, by symm⟩
     have ly : y.length ≤ 5 := by
       have := (Z7 o).1
       rw [yD, ey, List.length_append, List.length_append, show (cd ‹" "›).length = 1 by symm]; omega
     refine ⟨_, rfl, _, _, rfl, rfl, zN (m := 10000) (by rw [zW]; omega), (by show 2 ≤ sizeLine; decide), fun p hp => ⟨_, rfl, _, _, rfl, rfl, (by show (0 : Int) < 2; decide), p, _, _, _, rfl, rfl, bz.of zD, hy, _, _, rfl, rfl, zN (m := 10000) (by rw [zX, zW]; omega), _, rfl, _, _, rfl, rfl, zN (m := 10000) (by rw [zX, zX, zW, zW]; omega), _, _, rfl, rfl, zN (m := 10000) (by rw [zX, zX, zX, zW, zW]; omega), ?_⟩⟩
     rw [Xj ey]
     exact q (.two o t1 t2) _ ⟨o1, o2⟩ (by show 1 + max t1.depth t2.depth ≤ e + 1 + 1; omega) (by show t1.size + t2.size ≤ _; omega) (s1.trans (s2.trans (zK hp _)))
theorem Dc (T : Txt K mg A) : aF P w K mg base cD 1 A.nF A.nG ["self", "name"] (abG K) := by
 refine T.Gr.ok Ed (fun vs H Q E h => ?_) (fun cdv A0 outer s H vs Q E hr h => ?_)
 · obtain ⟨p, C, dx, u1, rfl, _⟩ := h
   rfl
 obtain ⟨p, C, dx, u1, rfl, hp, cl, na, q⟩ := h
 refine ⟨_, (zF (yN (pv 0) (pv 1) rfl)), ?_⟩
 exact ⟨_, rfl, _, rfl, p, _, dx, _, rfl, hp, cl, na, by decide, q⟩
theorem Qc (T : Txt K mg A) : aF P w K mg base cD 3 A.nH A.jj ["self", "name", "kind", "when"] (abH A) := by
 have oN := Dc (P := P) (w := w) (base := base) T
 refine T.Gs.ok Ef (fun vs H Q E h => ?_) (fun cdv A0 outer s H vs Q E hr h => ?_)
 · obtain ⟨p, dx, u1, u2, u3, rfl, _⟩ := h
   rfl
 obtain ⟨p, dx, u1, u2, u3, rfl, hp, q⟩ := h
 refine ⟨_, (zC (uQ (tM T.CQ oN ‹hr› rfl T.Z0 T.tW zM (zA (pv 0) (zA (pv 1) zB))))
     (zC (yN (pv 0) (pv 2) rfl)
     (zF (yN (pv 0) (pv 3) rfl)))), ?_⟩
 refine ⟨_, rfl, _, rfl, p, _, dx, u1, rfl, hp, T.rQ, T.o8, ?_⟩
 refine ⟨_, rfl, _, rfl, p, _, dx, _, rfl, zD, T.rQ, T.CP, (by show 1 < 1000; decide), ?_⟩
 refine ⟨_, rfl, _, rfl, p, _, dx, _, rfl, zD, T.rQ, T.uz, (by show 2 < 1000; decide), ?_⟩
 rw [yH, yH]
 exact q
theorem Ro (T : Txt K mg A) : aF P w K mg base cD 3 A.jJ A.gU ["self", "name", "test", "firm"] (aeV A) := by
 have oN := Dc (P := P) (w := w) (base := base) T
 refine T.Bc.ok z8 (fun vs H Q E h => ?_) (fun cdv A0 outer s H vs Q E hr h => ?_)
 · obtain ⟨p, dx, u1, u2, u3, rfl, _⟩ := h
   rfl
 obtain ⟨p, dx, u1, u2, u3, rfl, hp, q⟩ := h
 refine ⟨_, (zC (uQ (tM T.CQ oN ‹hr› rfl T.Z0 T.tW zM (zA (pv 0) (zA (pv 1) zB))))
     (zC (yN (pv 0) (pv 2) rfl)
     (zF (yN (pv 0) (pv 3) rfl)))), ?_⟩
 refine ⟨_, rfl, _, rfl, p, _, dx, u1, rfl, hp, T.jz, T.kI, ?_⟩
 refine ⟨_, rfl, _, rfl, p, _, dx, _, rfl, zD, T.jz, T.vZ, (by show 1 < 1000; decide), ?_⟩
 refine ⟨_, rfl, _, rfl, p, _, dx, _, rfl, zD, T.jz, T.pQ, (by show 2 < 1000; decide), ?_⟩
 rw [yH, yH]
 exact q
theorem JC (T : Txt K mg A) : aF P w K mg base cD 1 A.jK A.jL ["self", "name", "each", "rows", "ways"] (Xg A K) := by
 refine T.Be.ok z9 (fun vs H Q E h => ?_) (fun cdv A0 outer s H vs Q E hr h => ?_)
 · obtain ⟨p, dx, u1, u2, l1, l2, xs, ys, rfl, _⟩ := h
   rfl
 obtain ⟨p, dx, u1, u2, l1, l2, xs, ys, rfl, hp, h1, h2, q⟩ := h
 refine ⟨_, (zC (yN (pv 0) (pv 1) rfl)
     (zC (yN (pv 0) (pv 2) rfl)
     (zC (yN (pv 0) (yL xB (by rfl) T.oE Bt.list (zA (pv 3) zB)) rfl)
     (zF (yN (pv 0) (yL xB (by rfl) T.oE Bt.list (zA (pv 4) zB)) rfl))))), ?_⟩
 have n1 : l1 ≠ p := My h1 hp (by intro z; cases z)
 have n2 : l2 ≠ p := My h2 hp (by intro z; cases z)
 refine ⟨_, rfl, _, rfl, p, _, dx, _, rfl, hp, T.fH, T.kJ, by decide, ?_⟩
 refine ⟨_, rfl, _, rfl, p, _, dx, _, rfl, zD, T.fH, T.v9, (by show 1 < 1000; decide), ?_⟩
 rw [yH]
 refine ⟨_, rfl, l1, xs, rfl, .inl (bz.of (by rw [zP n1]; exact h1)), fun q1 hq1 => ?_⟩
 obtain ⟨e1, f1⟩ := uN hq1
 refine ⟨_, rfl, p, _, dx, _, rfl, (by rw [zP (Ne.symm e1)]; exact zD), T.fH, T.pR, (by show 2 < 1000; decide), ?_⟩
 refine ⟨_, rfl, l2, ys, rfl, .inl (bz.of (by rw [zP n2, zP (zV h2 f1), zP n2]; exact h2)), fun q2 hq2 => ?_⟩
 obtain ⟨e2, g2⟩ := uN hq2
 obtain ⟨e3, g3⟩ := uN g2
 obtain ⟨e4, f2⟩ := uN g3
 refine ⟨_, rfl, p, _, dx, _, rfl, (by rw [zP (Ne.symm e2)]; exact zD), T.fH, T.kO, (by show 3 < 1000; decide), ?_⟩
 refine q q1 q2 _ (Ne.symm e3) f1 f2 (fun b o hb hn => ?_) zD ?_ ?_
 · have nb : b ≠ p := fun e => hn (by rw [e]; exact List.mem_singleton.mpr rfl)
   rw [zP nb, zP (zV hb f2), zP nb, zP (zV hb f1), zP nb]; exact hb
 · rw [zP e1, zP (Ne.symm e3), zP e1]; exact zD
 · rw [zP e2]; exact zD
theorem JD (T : Txt K mg A) : aF P w K mg base cD 1 A.jM A.jN ["self", "name", "sheets", "totals"] (Xh A K) := by
 refine T.Bf.ok Aa (fun vs H Q E h => ?_) (fun cdv A0 outer s H vs Q E hr h => ?_)
 · obtain ⟨p, dx, u1, l1, l2, xs, u, z, y, rfl, _⟩ := h
   rfl
 obtain ⟨p, dx, u1, l1, l2, xs, u, z, y, rfl, hp, h1, h2, ⟨a, pl, b, c, rfl, k1, k2, k3, k4⟩, q⟩ := h
 refine ⟨_, (zC (yN (pv 0) (pv 1) rfl)
     (zC (yN (pv 0) (yL xB (by rfl) T.oE Bt.list (zA (pv 2) zB)) rfl)
     (zF (yN (pv 0) (V5 (QD (yQ (x := "total") (M := ["self", "name", "sheets", "totals"]) rfl (by rfl)) (by rfl) (by symm)) rfl (oU (pv 3)) (fun _ _ _ _ => V2) (fun _ _ _ _ => K1 (by exact (nq (zA (pv 0) (zA (yL xB (by rfl) T.oE Bt.list (zA (pv 1) zB)) zB)))) (by dsimp only [gh] <;> rfl))) rfl)))), ?_⟩
 have n1 : l1 ≠ p := My h1 hp (by intro z; cases z)
 have n2 : l2 ≠ p := My h2 hp (by intro z; cases z)
 refine ⟨_, rfl, _, rfl, p, _, dx, _, rfl, hp, T.lC, T.wg, by decide, ?_⟩
 refine ⟨_, rfl, l1, xs, rfl, .inl (bz.of (by rw [zP n1]; exact h1)), fun q1 hq1 => ?_⟩
 obtain ⟨e1, f1⟩ := uN hq1
 refine ⟨_, rfl, p, _, dx, _, rfl, (by rw [zP (Ne.symm e1)]; exact zD), T.lC, T.lW, (by show 1 < 1000; decide), ?_⟩
 generalize hG : upd (upd (upd H p (.ins A.iT dx (ji ‹"name"› u1 []))) q1 (.lst xs)) p (.ins A.iT dx (ji ‹"sheets"› (V.ref q1) (ji ‹"name"› u1 []))) = H1
 have F1 : Fr [p] H H1 := by rw [← hG]; exact (((Fr.of (aB.refl _)).upd (List.mem_singleton.mpr rfl) _).new hq1 _).upd (List.mem_singleton.mpr rfl) _
 have hp1 : H1 p = some (.ins A.iT dx [("name", u1), ("sheets", .ref q1)]) := by rw [← hG]; exact zD
 have apZ : H1 q1 = some (.lst xs) := by rw [← hG, zP e1]; exact zD
 have hl2 : H1 l2 = some (.lst [.ref a]) := F1 _ _ h2 (Us n2)
 have k1' := F1 _ _ k1 (Us (fun e => by rw [e, hp] at k1; cases k1))
 have k2' := F1 _ _ k2 (Us (fun e => by rw [e, hp] at k2; cases k2))
 have k3' := F1 _ _ k3 (Us (fun e => by rw [e, hp] at k3; cases k3))
 have k4' := F1 _ _ k4 (Us (fun e => by rw [e, hp] at k4; cases k4))
 refine ⟨_, rfl, l2, rfl, ⟨_, bz.of hl2⟩, ?_⟩
 refine QF (xs := [V.ref a]) (zN (m := 1) (Nat.le_refl _)) (fun i zs H' => aB H1 H' ∧ ((i = 0 ∧ zs = []) ∨ ∃ v, zs = [v] ∧ P0 H' v z y)) ⟨aB.refl _, .inl ⟨rfl, rfl⟩⟩ (fun i zs H' hw => bz.of (hw.1 _ _ hl2)) (fun i x zs H' hx hlen hw => ?_) (fun zs H' hw p2 hp2 => ?_)
 · obtain ⟨sH, hw⟩ := hw
   cases i with
   | succ j => simp at hx
   | zero =>
     cases hx
     rcases hw with ⟨_, rfl⟩ | ⟨v, rfl, _⟩
     · refine ⟨a, _, _, rfl, lG.of (sH _ _ k1'), Y9 ?_⟩
       refine ⟨_, rfl, _, rfl, pl, _, rfl, .inl (bz.of (sH _ _ k2')), fun l hl => ⟨(by show 2 ≤ sizeLine; decide), fun r hr => ?_⟩⟩
       have s2 := (zK hl (.lst [.ref b, .ref c])).trans (zK hr (.tup [.str z, .ref l]))
       exact ⟨sH.trans s2, .inr ⟨.ref r, rfl, r, l, b, c, rfl, zD, zK hr _ _ _ zD, s2 _ _ (sH _ _ k3'), s2 _ _ (sH _ _ k4')⟩⟩
     · simp at hlen
 · obtain ⟨sH, hw⟩ := hw
   rcases hw with ⟨e, _⟩ | ⟨v, rfl, hv⟩
   · exact absurd e (by simp)
   have s2 := zK hp2 (.lst [v])
   have np2 : p2 ≠ p := fun e => by rw [e, sH _ _ hp1] at hp2; cases hp2
   refine ⟨_, rfl, p, _, dx, _, rfl, s2 _ _ (sH _ _ hp1), T.lC, T.lX, (by show 2 < 1000; decide), ?_⟩
   have F2 : Fr [p] H' (upd (upd H' p2 (.lst [v])) p (oPa A dx u1 q1 p2)) := (Fr.of s2).upd (List.mem_singleton.mpr rfl) _
   have hpH := sH _ _ hp1
   obtain ⟨a', pl', b', c', rfl, g1, g2, g3, g4⟩ := hv
   refine q q1 p2 _ _ ((F1.trans (Fr.of sH)).trans F2) zD (F2 _ _ (sH _ _ apZ) (Us e1)) ?_ ⟨a', pl', b', c', rfl, F2 _ _ g1 (Us (fun e => by rw [e, hpH] at g1; cases g1)), F2 _ _ g2 (Us (fun e => by rw [e, hpH] at g2; cases g2)), F2 _ _ g3 (Us (fun e => by rw [e, hpH] at g3; cases g3)), F2 _ _ g4 (Us (fun e => by rw [e, hpH] at g4; cases g4))⟩
   show (upd (upd H' p2 (.lst [V.ref a'])) p (oPa A dx u1 q1 p2)) p2 = _
   rw [zP np2]; exact zD
theorem SJ (T : Txt K mg A) : aF P w K mg base cD 1 A.rH A.wK ["_law_found", "_law_due"] apU := by
 refine T.QT.ok O5 (fun vs H Q E h => ?_) (fun cdv A0 outer s H vs Q E hr h => ?_)
 · obtain ⟨z, rfl, _⟩ := h
   rfl
 obtain ⟨z, rfl, q⟩ := h
 refine ⟨_, (zF (zG (tD (zR yO (by rfl) T.aJ Bt.isinstance (zA (pv 0) (zA (xO (v := .ty "str") rfl T.oF Bt.str rfl) zB))) (wA (xF yR (pv 0) (pv 1) (zS _)))))), ?_⟩
 refine ⟨_, rfl, _, _, _, _, rfl, rfl, .old (.str _), T.qy, _, rfl, cQ ⟨_, rfl, _, rfl, rfl, ?_⟩⟩
 rw [decide_eq_true rfl]; exact q
theorem aeX (T : Txt K mg A) : aF P w K mg base cD 13 A.eZ A.il ["_law_row", "_law_name_here", "_law_kind_here", "_law_saying_here"] (apV A) := by
 have dR := SJ (P := P) (w := w) (base := base) T
 have G_S := Ak (P := P) (w := w) (base := base) T 5
 refine T.vC.ok uC (fun vs H Q E h => ?_) (fun cdv A0 outer s H vs Q E hr h => ?_)
 · obtain ⟨a, dx, z, kp, ku, v, o, rfl, _⟩ := h
   rfl
 obtain ⟨a, dx, z, kp, ku, v, o, rfl, ha, hk, gk, hv, gt, q⟩ := h
 obtain ⟨kr, hkr⟩ : ∃ kr : Nat, kr = 11 := ⟨_, rfl⟩
 obtain ⟨ktd, ap0⟩ : ∃ kr : Nat, kr = 6 := ⟨_, rfl⟩
 refine ⟨_, (zC (yB (PW.pt (xJ (yM (yA (zR yO (by rfl) T.aJ Bt.isinstance (zA (pv 0) (zA (xL rfl T.Z1) zB))))) (xJ (yM (yA (zR yO (by rfl) T.aJ Bt.isinstance (zA (pv 0) (zA (xL rfl T.ZX) zB))))) (xC (yA (zR yO (by rfl) T.aJ Bt.isinstance (zA (pv 0) (zA (xL rfl T.R3) zB)))))))) (zF (zG xK)) zO)
     (zC (yB (PW.pt (xJ (yM (yA (zI dR ‹hr› rfl T.gK T.gJ T.gH .nil zM (zA (zZ (pv 0) rfl) (zA (pv 1) zB))))) (xC (yM (yA (zI dR ‹hr› rfl T.gK T.gJ T.gH .nil zM (zA (yE (CX := cD) (k := ktd) ‹hr› zM (zZ (pv 0) rfl)) (zA (pv 2) zB)))))))) (zF (zG xK)) zO)
     (zC (yB (zQ Kw (pv 3) yS (zS _)) (zF (zG (xF Kw (zZ (pv 0) rfl) yS (zS _)))) zO)
     (zF (zG (zI dR ‹hr› rfl T.gK T.gJ T.gH .nil zM (zA (yE (CX := cD) (k := kr) ‹hr› zM (zZ (pv 0) rfl)) (zA (pv 3) zB)))))))), ?_⟩
 subst hkr ap0
 refine ⟨_, rfl, _, _, _, _, rfl, rfl, .old (T.Q4 _ _ _ _ ha), T.Q0, _, rfl, aM ?_⟩
 refine ⟨_, rfl, _, _, _, _, rfl, rfl, .old (T.Q4 _ _ _ _ ha), T.QZ, _, rfl, aM ?_⟩
 refine ⟨_, rfl, _, _, _, _, rfl, rfl, .old (T.Q4 _ _ _ _ ha), T.Ls, _, rfl, aM ?_⟩
 refine ⟨_, rfl, a, _, dx, _, _, rfl, ha, T.rQ, T.o8, rfl, _, rfl, z, rfl, _, rfl, aM ?_⟩
 obtain ⟨dxk, fs, hkp, hf⟩ := id hk
 obtain ⟨J, ej, dj⟩ : ∃ J : ym P w K mg base cD 6 (cls A ku) "told", J.sp = sV A ku ∧ J.nu = [] := ⟨JT T ku gk, aeq T ku gk⟩
 refine ⟨_, rfl, a, _, dx, _, _, rfl, ha, T.rQ, T.CP, rfl, kp, cls A ku, dxk, fs, J, rfl, hkp, hf.noT.1, ?_⟩
 show J.sp (_ :: ([] ++ J.nu)) _ _ _
 rw [ej, dj]
 refine ⟨kp, rfl, hk, fun H1 s1 => ⟨_, rfl, S (Ik ku), rfl, _, rfl, aM ?_⟩⟩
 cases o with
 | none =>
   have hv : v = .non := hv
   subst hv
   exact ⟨_, rfl, rfl, _, rfl, cQ ⟨_, rfl, a, _, dx, _, _, rfl, s1 _ _ ha, T.rQ, T.uz, rfl, rfl, q _ s1⟩⟩
 | some t =>
   have g := gt t rfl
   have hv1 := m8.same (t := t) s1 hv
   obtain ⟨a2, C1, Ib, Ie, M1, ey1, h1, hl1, Xk, Xl⟩ := qJ T G_S (t := t) hv1
   refine ⟨_, rfl, rfl, _, rfl, aM ⟨_, rfl, a, _, dx, _, _, rfl, s1 _ _ ha, T.rQ, T.uz, rfl, a2, C1, Ib, Ie, M1, ey1, h1, hl1, ?_⟩⟩
   dsimp only [qT]
   rw [Xk, Xl]
   exact ⟨_, t, [], rfl, hv1, by have := g.2.1; omega, rfl, g.1, by have := g.b.2.2; omega, _, rfl, S (pA t), rfl, q _ s1⟩
theorem ae1 (T : Txt K mg A) : aF P w K mg base cD 13 A.gY A.jU ["_law_row", "_law_name_here", "_law_saying_here", "_law_firm"] (apW A) := by
 have dR := SJ (P := P) (w := w) (base := base) T
 have G_S := Ak (P := P) (w := w) (base := base) T 5
 refine T.Br.ok Aj (fun vs H Q E h => ?_) (fun cdv A0 outer s H vs Q E hr h => ?_)
 · obtain ⟨a, dx, z, v, t, f, rfl, _⟩ := h
   rfl
 obtain ⟨a, dx, z, v, t, f, rfl, ha, hv, g, q⟩ := h
 obtain ⟨kr, hkr⟩ : ∃ kr : Nat, kr = 11 := ⟨_, rfl⟩
 refine ⟨_, (zC (yB (PW.pt (xJ (yM (yA (zR yO (by rfl) T.aJ Bt.isinstance (zA (pv 0) (zA (xL rfl T.Z1) zB))))) (xJ (yM (yA (zR yO (by rfl) T.aJ Bt.isinstance (zA (pv 0) (zA (xL rfl T.R3) zB))))) (xC (yA (zR yO (by rfl) T.aJ Bt.isinstance (zA (pv 0) (zA (xL rfl T.ZX) zB)))))))) (zF (zG xK)) zO)
     (zC (yB (PW.pt (xJ (yM (yA (zR yO (by rfl) T.aJ Bt.isinstance (zA (zZ (pv 0) rfl) (zA (xO (v := .ty "bool") rfl T.aa9 Bt.bool rfl) zB))))) (xC (zQ MJ (zZ (pv 0) rfl) (pv 3) (zS _))))) (zF (zG xK)) zO)
     (zF (zG (tD (zI dR ‹hr› rfl T.gK T.gJ T.gH .nil zM (zA (zZ (pv 0) rfl) (zA (pv 1) zB))) (wA (zI dR ‹hr› rfl T.gK T.gJ T.gH .nil zM (zA (yE (CX := cD) (k := kr) ‹hr› zM (zZ (pv 0) rfl)) (zA (pv 2) zB))))))))), ?_⟩
 subst hkr
 refine ⟨_, rfl, _, _, _, _, rfl, rfl, .old (T.Hq _ _ _ _ ha), T.Lr, _, rfl, aM ?_⟩
 refine ⟨_, rfl, _, _, _, _, rfl, rfl, .old (T.Hq _ _ _ _ ha), T.Hh, _, rfl, aM ?_⟩
 refine ⟨_, rfl, _, _, _, _, rfl, rfl, .old (T.Hq _ _ _ _ ha), T.Lq, _, rfl, aM ?_⟩
 refine ⟨_, rfl, a, _, dx, _, _, rfl, ha, T.jz, T.pQ, rfl, _, _, _, _, rfl, rfl, .old (.bl _), T.Ot, _, rfl, aM ?_⟩
 refine ⟨_, rfl, a, _, dx, _, _, rfl, ha, T.jz, T.pQ, rfl, _, rfl, rfl, _, rfl, Rk nd ?_⟩
 obtain ⟨a2, C1, Ib, Ie, M1, ey1, h1, hl1, Xk, Xl⟩ := qJ T G_S (t := t) hv
 refine ⟨_, rfl, a, _, dx, _, _, rfl, ha, T.jz, T.kI, rfl, _, rfl, z, rfl, _, rfl, cQ ⟨_, rfl, a, _, dx, _, _, rfl, ha, T.jz, T.vZ, rfl, a2, C1, Ib, Ie, M1, ey1, h1, hl1, ?_⟩⟩
 dsimp only [qT]
 rw [Xk, Xl]
 exact ⟨_, t, [], rfl, hv, by have := g.2.1; omega, rfl, g.1, by have := g.b.2.2; omega, _, rfl, S (pA t), rfl, q⟩
theorem ae2 (T : Txt K mg A) : aF P w K mg base cD 13 A.gZ A.jV ["_law_sheet", "_law_name_here", "_law_each", "_law_rows", "_law_ways"] (apY A K) := by
 have dR := SJ (P := P) (w := w) (base := base) T
 have G_S := Ak (P := P) (w := w) (base := base) T 5
 refine T.Bs.ok jB (fun vs H Q E h => ?_) (fun cdv A0 outer s H vs Q E hr h => ?_)
 · obtain ⟨a, dx, z, e, q1, q2, p1, p2, L, wr, wl, N, ws, rfl, _⟩ := h
   rfl
 obtain ⟨a, dx, z, e, q1, q2, p1, p2, L, wr, wl, N, ws, rfl, ha, hq1, hq2, hp1, hp2, hN, hwr, hwl, hg, h10, q⟩ := h
 obtain ⟨kr, hkr⟩ : ∃ kr : Nat, kr = 11 := ⟨_, rfl⟩
 refine ⟨_, (zC (yB (PW.pt (xJ (yM (yA (zI dR ‹hr› rfl T.gK T.gJ T.gH .nil zM (zA (zZ (pv 0) rfl) (zA (pv 1) zB))))) (xC (zQ MJ (zZ (pv 0) rfl) (pv 2) (zS _))))) (zF (zG xK)) zO)
     (zC (yB (PW.pt (xJ (yM (yA (zR yO (by rfl) T.aJ Bt.isinstance (zA (zZ (pv 0) rfl) (zA (xO (v := .ty "list") rfl T.oE Bt.list rfl) zB))))) (xC (zQ (VM (aaY hr)) (xU (yQ (x := "_law_row") (M := ["_law_sheet", "_law_name_here", "_law_each", "_law_rows", "_law_ways", "_law_way", "_law_due"]) rfl (by rfl)) rfl (oU (zZ (pv 0) rfl)) (fun _ _ _ _ => K1 (by exact (zZ (pv 0) rfl)) (by dsimp only [iZ] <;> rfl))) (pv 3) (zS _))))) (zF (zG xK)) zO)
     (zC (yB (PW.pt (xJ (yM (yA (zR yO (by rfl) T.aJ Bt.isinstance (zA (zZ (pv 0) rfl) (zA (xO (v := .ty "list") rfl T.oE Bt.list rfl) zB))))) (xC (zQ MJ (zR yI (by rfl) T.jy PySem.boot_len (zA (zZ (pv 0) rfl) zB)) (zR yI (by rfl) T.jy PySem.boot_len (zA (pv 4) zB)) (zS _))))) (zF (zG xK)) zO)
     (zC (KQ PassesOwn.never rfl (aa6 rfl T.aei (zA (zZ (pv 0) rfl) (zA (pv 4) zB))) (U4 rfl (xX (uR (i := 5) jB.nd rfl (by first | exact Or.inl rfl | exact Or.inr rfl)) (xX (uR (i := 6) jB.nd rfl (by first | exact Or.inl rfl | exact Or.inr rfl)) Rt))) (zC (yB (PW.pt (xJ (yM (yA (zR yO (by rfl) T.aJ Bt.isinstance (zA (pv 5) (zA (xO (v := .ty "tuple") rfl T.YJ Bt.tuple rfl) zB))))) (xJ (zQ MJ (zR yI (by rfl) T.jy PySem.boot_len (zA (pv 5) zB)) zE (zS _)) (xC (yM (yA (zI dR ‹hr› rfl T.gK T.gJ T.gH .nil zM (zA (yC wC (pv 5) zE (fun _ _ => rfl)) (zA (yC wC (pv 6) zE (fun _ _ => rfl)) zB))))))))) (zF (zG xK)) zO)
     (zF (yB (PW.pt (xJ (PW.pt (pB (zQ Kw (yC wC (pv 6) zE (fun _ _ => rfl)) yS (zS _)) (oR (zQ Ex (yC wC (pv 5) zE (fun _ _ => rfl)) yS (zS _))))) (xC (PW.pt (pB (zQ Ex (yC wC (pv 6) zE (fun _ _ => rfl)) yS (zS _)) (oR (zQ MJ (yE (CX := cD) (k := kr) ‹hr› zM (yC wC (pv 5) zE (fun _ _ => rfl))) (yC wC (pv 6) zE (fun _ _ => rfl)) (zS _)))))))) (zF (zG xK)) zO))))
     (zF (zG xK)))))), ?_⟩
 subst hkr
 refine ⟨_, rfl, a, _, dx, _, _, rfl, ha, T.fH, T.kJ, rfl, _, rfl, z, rfl, _, rfl, aM ?_⟩
 refine ⟨_, rfl, a, _, dx, _, _, rfl, ha, T.fH, T.v9, rfl, _, rfl, (by cases e <;> rfl), _, rfl, Rk nd ?_⟩
 refine ⟨_, rfl, a, _, dx, _, _, rfl, ha, T.fH, T.pR, rfl, _, _, _, _, rfl, rfl, .old (.lst hq1), T.o6, _, rfl, aM ?_⟩
 refine ⟨_, rfl, a, _, dx, _, _, rfl, ha, T.fH, T.pR, rfl, q1, rfl, ⟨_, bz.of hq1⟩, ?_⟩
 refine xR (xs := L) (zN (m := 10) h10) (fun i ys H' => H = H' ∧ ys = (N.take i).map V.str) ⟨rfl, rfl⟩ (fun i ys H' hw => hw.1 ▸ bz.of hq1) (fun i x ys H' hx _ hw => ?_) (fun ys H' _ hw r hr => ?_)
 · obtain ⟨rfl, rfl⟩ := hw
   obtain ⟨y, hyi, b, C, dxb, fs, rfl, hb, cl, na, hl⟩ := qK hN hx
   refine ⟨_, rfl, b, C, dxb, fs, _, rfl, hb, cl, na, hl, rfl, ?_⟩
   rw [List.take_succ, hyi, List.map_append]; rfl
 obtain ⟨rfl, rfl⟩ := hw
 rw [xQ hN, List.take_length]
 have sr := zK hr (.lst (N.map V.str))
 have hNf : (N.map V.str).all gw = true := Ue N
 refine ⟨_, rfl, _, uV (n := 19) (e := fun _ => true) (bz.of zD) (bz.of (sr _ _ hp1)) rfl (fun j x y hx hy => ?_), _, rfl, ?_⟩
 · have e := Option.some.inj (hx.symm.trans hy)
   subst e
   obtain ⟨z', _, rfl⟩ := qX hx
   exact Rm _ _
 refine Rk (by simp) ?_
 refine ⟨_, rfl, a, _, dx, _, _, rfl, sr _ _ ha, T.fH, T.kO, rfl, _, _, _, _, rfl, rfl, .old (.lst (sr _ _ hq2)), T.o6, _, rfl, aM ?_⟩
 have lw : wr.length = wl.length := by rw [xQ hwr, xQ hwl]
 refine ⟨_, rfl, a, _, dx, _, _, rfl, sr _ _ ha, T.fH, T.kO, rfl, q2, _, rfl, .inl (bz.of (sr _ _ hq2)), _, rfl, p2, _, rfl, .inl (bz.of (sr _ _ hp2)), rfl, _, rfl, Rk (nl lw) ?_⟩
 refine ⟨_, rfl, a, _, dx, _, _, rfl, sr _ _ ha, T.fH, T.kO, rfl, _, rfl, q2, p2, rfl, ⟨_, bz.of (sr _ _ hq2)⟩, ⟨_, bz.of (sr _ _ hp2)⟩, ?_⟩
 refine Wb (xs := wr) (ys := wl) lw (fun i σ F => (∃ v1 v2, σ = [some (.ref a), some (.str z), some (eV e), some (.ref p1), some (.ref p2), v1, v2]) ∧ aB H F) ⟨⟨_, _, rfl⟩, sr⟩ (fun i σ F _ hh => ⟨bz.of (hh.2 _ _ hq2), bz.of (hh.2 _ _ hp2)⟩) (fun i x y σ F hx hy hh tp htp => ?_) (fun σ F hh => ?_)
 · obtain ⟨⟨v1, v2, rfl⟩, sF⟩ := hh
   obtain ⟨⟨n, o⟩, hci, b, v, rfl, hb, hv⟩ := qK hwr hx
   obtain ⟨c', ap1, d, rfl, hd⟩ := qK hwl hy
   have ec : c' = (n, o) := Option.some.inj (ap1.symm.trans hci)
   subst ec
   dsimp only at hb hd hv
   have sA := sF.trans (zK htp (.tup [.ref b, .ref d]))
   have hbA := sA _ _ hb
   have hdA := sA _ _ hd
   have hvA := hv.same sA
   have b0 : wB [V.str n, v] ((0 : Nat) : Int) = some (V.str n) := yG rfl
   have b1 : wB [V.str n, v] ((1 : Nat) : Int) = some v := yG rfl
   have d0 : wB [V.str n, ov o] ((0 : Nat) : Int) = some (V.str n) := yG rfl
   have d1 : wB [V.str n, ov o] ((1 : Nat) : Int) = some (ov o) := yG rfl
   refine ⟨tp, _, rfl, lG.of zD, rfl, _, _, rfl, _, _, rfl, rfl, ?_⟩
   refine ⟨_, rfl, _, _, _, _, rfl, rfl, .tpl (lG.of hbA), T.Ji, _, rfl, aM ?_⟩
   refine ⟨_, rfl, b, _, rfl, .inr (lG.of hbA), rfl, _, rfl, Rk (by show (!decide (V.int ((2 : Nat) : Int) = V.int 2)) = false; decide) ?_⟩
   refine ⟨_, rfl, b, _, _, _, rfl, rfl, lG.of hbA, b0, _, rfl, d, _, _, _, rfl, rfl, lG.of hdA, d0, n, rfl, _, rfl, aM ?_⟩
   cases o with
   | none =>
     have hv : v = .non := hvA
     subst hv
     exact ⟨_, rfl, d, _, _, _, rfl, rfl, lG.of hdA, d1, rfl, _, rfl, cQ ⟨_, rfl, b, _, _, _, rfl, rfl, lG.of hbA, b1, rfl, _, rfl, aM ⟨_, rfl, d, _, _, _, rfl, rfl, lG.of hdA, d1, rfl, _, rfl, aM (aM ⟨⟨_, _, rfl⟩, sA⟩)⟩⟩⟩
   | some t =>
     have g := hg _ (List.mem_of_getElem? hci) t rfl
     have hvA : m8 A _ t v := hvA
     obtain ⟨a2, C1, Ib, Ie, M1, ey1, h1, hl1, Xk, Xl⟩ := qJ T G_S (t := t) hvA
     refine ⟨_, rfl, d, _, _, _, rfl, rfl, lG.of hdA, d1, rfl, _, rfl, aM (aM ⟨_, rfl, d, _, _, _, rfl, rfl, lG.of hdA, d1, rfl, _, rfl, cQ ⟨_, rfl, b, _, _, _, rfl, rfl, lG.of hbA, b1, a2, C1, Ib, Ie, M1, ey1, h1, hl1, ?_⟩⟩)⟩
     dsimp only [qT]
     rw [Xk, Xl]
     exact ⟨_, t, [], rfl, hvA, by have := g.2.1; omega, rfl, g.1, by have := g.b.2.2; omega, _, rfl, d, _, _, _, rfl, rfl, lG.of hdA, d1, rfl, _, rfl, Rk nd ⟨⟨_, _, rfl⟩, sA⟩⟩
 obtain ⟨⟨v1, v2, rfl⟩, sF⟩ := hh
 exact q _ sF
end
end fX.Y
set_option maxHeartbeats 4000000
namespace fX.Y
open PySem L2
seal PE PT PW PA PS jG PG tE PI PO iV ir uT bL iW qU sy PC wD
local macro_rules | `(tactic| walk_at "rd1") => `(tactic| first
 | (refine And.intro rfl ?_)
 | (refine And.intro (by assumption) ?_)
 | (refine And.intro (fun _ e => e) ?_)
 | (refine And.intro (au.str _) ?_) | (refine And.intro (au.int _) ?_) | (refine And.intro (au.bl _) ?_) | (refine And.intro au.non ?_)
 | (refine cQ ?_) | (refine aM ?_)
 | (apply Exists.intro))
local macro_rules | `(tactic| walk_at "rd") => `(tactic| repeat (walk_at "rd1"))
theorem Xm {ku : KU} (h : CW ku) : bN 890 (S (Ik ku)) := by
 cases ku with
 | yn => rw [show Ik .yn = cd ‹"yesno"› from rfl, fL]; exact ⟨by symm, by symm⟩
 | wh lo hi =>
   have f0 : bN 6 ‹"whole "› := ⟨by symm, by symm⟩
   have e : ‹"whole "› ++ S (Z6 (.wh lo hi)) = S (Ik (.wh lo hi)) := yY (by rw [yF]; rfl)
   rw [← e]; exact (f0.app (Fi h.good (.inl ⟨lo, hi, rfl⟩))).mono (by decide)
 | mo lo hi =>
   have f0 : bN 6 ‹"money "› := ⟨by symm, by symm⟩
   have e : ‹"money "› ++ S (Z6 (.mo lo hi)) = S (Ik (.mo lo hi)) := yY (by rw [yF]; rfl)
   rw [← e]; exact (f0.app (Fi h.good (.inr ⟨lo, hi, rfl⟩))).mono (by decide)
 | pk ws =>
   have e : ‹"pick "› ++ S (aR [32] (ws.map cd)) = S (Ik (.pk ws)) := yY (by rw [yF]; rfl)
   rw [← e]
   have hl := Ko (ws := ws) h.2.2.2 h.2.1
   refine (bN.app (n := 5) (m := 150) ⟨by symm, by symm⟩ ⟨by rw [zW]; omega, fun c hc => ?_⟩).mono (by decide)
   rw [dq] at hc
   rcases mem_join hc with e | ⟨p, hp, hc⟩
   · omega
   · obtain ⟨z, hz, rfl⟩ := List.mem_map.mp hp
     have := (fX.dO (h.2.2.2 z hz)).2.2 c hc
     omega
 | nm m =>
   have f0 : bN 6 ‹"names "› := ⟨by symm, by symm⟩
   have h6 : m ≤ 6 := h.2
   have p60 : (7 : Nat) < 10 ^ 60 := by symm
   have e : ‹"names "› ++ S (cj (m : Int)) = S (Ik (.nm m)) := yY (by rw [yF]; rfl)
   have fn := (Xc (m := (m : Int)) (by omega)).1
   have ln := lD (m := (m : Int)) (by omega)
   rw [← e]
   exact (f0.app (m := 100) ⟨by rw [zW]; omega, fn.2⟩).mono (by decide)
theorem Ih {α β : Type} {R : α → β → Prop} {as : List α} {bs : List β} (h : Paired R as bs) : ∀ k : Nat, Paired R (as.drop k) (bs.drop k) ∧ Paired R (as.take k) (bs.take k) := by
 induction h with
 | nil => intro k; cases k <;> exact ⟨.nil, .nil⟩
 | cons r h ih =>
   intro k
   cases k with
   | zero => exact ⟨.cons r h, .nil⟩
   | succ k => exact ⟨(ih k).1, .cons r (ih k).2⟩
theorem ae7 {α : Type} {l : List α} (h : l.length = 8) : ∃ a0 a1 a2 a3 a4 a5 a6 a7, l = [a0, a1, a2, a3, a4, a5, a6, a7] := by
 match l, h with
 | [a0, a1, a2, a3, a4, a5, a6, a7], _ => exact ⟨_, _, _, _, _, _, _, _, rfl⟩
theorem ap2 {a b c d : V} {k : Nat} (h : k < 4) : Il [a, b, c, d] (some (k : Int)) none = [a, b, c, d].drop k ∧ Il [a, b, c, d] none (some (k : Int)) = [a, b, c, d].take k := by
 rcases (by omega : k = 0 ∨ k = 1 ∨ k = 2 ∨ k = 3) with rfl | rfl | rfl | rfl <;> exact ⟨rfl, rfl⟩
theorem abI {X : Cx} {H : Hp} {x y : V} {z u : Str} (hx : P0 H x z u) (hy : P0 H y z u) : Nt X H 19 x y true := by
 obtain ⟨a, pl, b, c, rfl, h1, h2, h3, h4⟩ := hx
 obtain ⟨a', pl', b', c', rfl, k1, k2, k3, k4⟩ := hy
 by_cases e : a = a'
 · subst e; exact Gh
 refine Gi e ?_
 have key := Nv (X := X) (n := 18) (e := fun _ => true) (lG.of h1) (lG.of k1) (fun j u v hu hv => ?_)
 · exact key
 cases j with
 | zero => cases hu; cases hv; exact Rm _ _
 | succ j =>
   cases j with
   | succ j => simp at hu
   | zero =>
     cases hu; cases hv
     by_cases e2 : pl = pl'
     · subst e2; exact Gh
     refine Gi e2 ?_
     have ap3 := uV (X := X) (n := 17) (e := fun _ => true) (bz.of h2) (bz.of k2) rfl (fun j x y hxj hyj => ?_)
     · exact ap3
     cases j with
     | zero =>
       cases hxj; cases hyj
       have fl : ([V.int 2, .str u] : List V).all gw = true := rfl
       have := J4 (X := X) (n := 16) (lG.of h3) (lG.of k3) fl fl (fun _ => rfl)
       rw [yl fl] at this
       exact this
     | succ j =>
       cases j with
       | succ j => simp at hxj
       | zero =>
         cases hxj; cases hyj
         have fl : ([V.int (-3), .non] : List V).all gw = true := rfl
         have := J4 (X := X) (n := 16) (lG.of h4) (lG.of k4) fl fl (fun _ => rfl)
         rw [yl fl] at this
         exact this
def Ii (K : W.Frag) : Sp := fun vs H Q _ => ∃ (a : Addr) (ns : List Int), vs = [.ref a] ∧ bz K H a (ns.map V.int) ∧ ns.length ≤ 63 ∧ (∀ n ∈ ns, ib n ≤ 1048576) ∧ ∀ H', Q (.bl true) H'
section
variable {P : Program} {w : World} {K : W.Frag} {mg : Str → Option Value} {base : Heap} {A : dW}
theorem Rp (T : Txt K mg A) : aF P w K mg base cD 50 A.RT A.RV ["_law_script"] (Ii K) := by
 have JF := HX (P := P) (w := w) (base := base) T
 have j7 := uH (P := P) (w := w) (base := base) T
 have Rq := PX (P := P) (w := w) (base := base) T
 have m5 := wy (P := P) (w := w) (base := base) T 4
 have JG := Ig (P := P) (w := w) (base := base) T
 have Kq := abq (P := P) (w := w) (base := base) T
 have uO := Qc (P := P) (w := w) (base := base) T
 have qL := Ro (P := P) (w := w) (base := base) T
 have qM := JC (P := P) (w := w) (base := base) T
 have Ce := JD (P := P) (w := w) (base := base) T
 have mF := aeX (P := P) (w := w) (base := base) T
 have qO := ae1 (P := P) (w := w) (base := base) T
 have qP := ae2 (P := P) (w := w) (base := base) T
 have dR := SJ (P := P) (w := w) (base := base) T
 refine T.ZM.ok jC (fun vs H Q E h => ?_) (fun cdv A0 outer s H vs' Q E hr h => ?_)
 · obtain ⟨a, ns, rfl, _⟩ := h
   rfl
 obtain ⟨a, ns, rfl, hS, hlen, Vu, q⟩ := h
 refine ⟨_, (zC (Ga (i := 1) jC.nd rfl (by first | exact Or.inl rfl | exact Or.inr rfl) (yQ (x := "_law_k") (M := ["_law_script", "_law_cells", "_law_names", "_law_kind_here", "_law_saying_here", "_law_test", "_law_rows", "_law_turn", "_law_some", "_law_each", "_law_ways", "_law_sheet", "_law_other", "_law_paper"]) rfl (by rfl)) rfl (JK rfl T.RX (zA zE zB)) (fun _ _ _ _ => (zI JF ‹hr› rfl T.Jh T.Jg T.Jf .nil zM (zA (pv 1) (zA (pv 0) zB)))))
     (zC (Ga (i := 2) jC.nd rfl (by first | exact Or.inl rfl | exact Or.inr rfl) (yQ (x := "_law_cell") (M := ["_law_script", "_law_cells", "_law_names", "_law_kind_here", "_law_saying_here", "_law_test", "_law_rows", "_law_turn", "_law_some", "_law_each", "_law_ways", "_law_sheet", "_law_other", "_law_paper"]) rfl (by rfl)) rfl (oU (pv 1)) (fun _ _ _ _ => (zI j7 ‹hr› rfl T.rM T.rK T.rJ .nil zM (zA (pv 0) zB))))
     (zC (zY (i := 3) jC.nd rfl (by first | exact Or.inl rfl | exact Or.inr rfl) (zI Rq ‹hr› rfl T.QL T.QK T.QJ .nil zM (zA (yC zU (pv 1) zE (fun _ _ => rfl)) zB)))
     (zC (zY (i := 4) jC.nd rfl (by first | exact Or.inl rfl | exact Or.inr rfl) (zI m5 ‹hr› rfl T.rP T.rO T.rN .nil zM (zA (yC zU (pv 1) zE (fun _ _ => rfl)) (zA zE zB))))
     (zC (zY (i := 5) jC.nd rfl (by first | exact Or.inl rfl | exact Or.inr rfl) (zI JG ‹hr› rfl T.Jd T.Jc T.Jb .nil Qw (zA (pv 4) zB)))
     (zC (zY (i := 6) jC.nd rfl (by first | exact Or.inl rfl | exact Or.inr rfl) (yZ (zA (yU T.Ws uO ‹hr› rfl T.ZW T.Di T.Dj zM (zA (yC zU (pv 2) zE (fun _ _ => rfl)) (zA (zI Kq ‹hr› rfl T.Ka T.J9 T.J8 .nil Qw (zA (pv 3) zB)) zB))) (zA (yU T.O2 qL ‹hr› rfl T.RZ T.yx T.yz zM (zA (yC zU (pv 2) zE (fun _ _ => rfl)) (zA (pv 5) zB))) (zA (yU T.Ws uO ‹hr› rfl T.ZW T.Gu .nil zM (zA (yC zU (pv 2) zE (fun _ _ => rfl)) (zA (zI Kq ‹hr› rfl T.Ka T.J9 T.J8 .nil Qw (zA (pv 3) zB)) (zA (pv 5) zB)))) zB)))))
     (zC (uQ (tL PySem.F.plainAttrs_list PySem.F.slot_list_append PySem.F.type_list_append Tj (pv 6) (zA (yU T.O2 qL ‹hr› rfl T.RZ T.Bd .nil zM (zA (yC zU (pv 2) zE (fun _ _ => rfl)) (zA (pv 5) (zA xK zB)))) zB)))
     (zC (zY (i := 7) jC.nd rfl (by first | exact Or.inl rfl | exact Or.inr rfl) (zL yP (yC zU (pv 1) zE (fun _ _ => rfl)) zE))
     (zC (zY (i := 8) jC.nd rfl (by first | exact Or.inl rfl | exact Or.inr rfl) (zL Vj (yW EY (pv 6) (xA (pv 7)) xG) (yW EY (pv 6) xG (xA (pv 7)))))
     (zC (zY (i := 9) jC.nd rfl (by first | exact Or.inl rfl | exact Or.inr rfl) (yC zU (yZ (zA yS (zA (yC zU (pv 2) zE (fun _ _ => rfl)) zB))) (zL yP (yC zU (pv 1) zE (fun _ _ => rfl)) zE) (fun _ _ => rfl)))
     (zC (zY (i := 10) jC.nd rfl (by first | exact Or.inl rfl | exact Or.inr rfl) (yZ (zA (nq (zA (yC zU (pv 2) zE (fun _ _ => rfl)) (zA (pv 5) zB))) (zA (nq (zA zJ (zA yS zB))) zB))))
     (zC (zY (i := 11) jC.nd rfl (by first | exact Or.inl rfl | exact Or.inr rfl) (yU T.O3 qM ‹hr› rfl T.R4 T.qj .nil zM (zA (yC zU (pv 2) zE (fun _ _ => rfl)) (zA (pv 9) (zA (yL xB (by rfl) T.oE Bt.list (zA (pv 8) zB)) (zA (yL xB (by rfl) T.oE Bt.list (zA (pv 10) zB)) zB))))))
     (zC (zY (i := 12) jC.nd rfl (by first | exact Or.inl rfl | exact Or.inr rfl) (yU T.O3 qM ‹hr› rfl T.R4 T.qj .nil zM (zA (yC zU (pv 2) zE (fun _ _ => rfl)) (zA (yC zU (pv 2) zE (fun _ _ => rfl)) (zA (yZ zB) (zA (yZ zB) zB))))))
     (zC (zY (i := 13) jC.nd rfl (by first | exact Or.inl rfl | exact Or.inr rfl) (yU T.Wt Ce ‹hr› rfl T.YQ T.Bg .nil zM (zA (yC zU (pv 2) zE (fun _ _ => rfl)) (zA (yZ (zA (pv 11) (zA (pv 12) zB))) (zA (yZ (zA (nq (zA (yC zU (pv 2) zE (fun _ _ => rfl)) (zA (yZ (zA (nq (zA zE (zA (yC zU (pv 2) zE (fun _ _ => rfl)) zB))) (zA (nq (zA (vI pC zE) (zA yS zB))) zB))) zB))) zB)) zB)))))
     (zC (yB (yM (yA (zI mF ‹hr› rfl T.mC T.mz T.my .nil zM (zA (yC zU (pv 6) zE (fun _ _ => rfl)) (zA (yC zU (pv 2) zE (fun _ _ => rfl)) (zA (pv 3) (zA yS zB))))))) (zF (zG xK)) zO)
     (zC (yB (yM (yA (zI mF ‹hr› rfl T.mC T.mz T.my .nil zM (zA (yC zU (pv 6) zE (fun _ _ => rfl)) (zA (yC zU (pv 2) zE (fun _ _ => rfl)) (zA (pv 3) (zA (pv 4) zB))))))) (zF (zG xK)) zO)
     (zC (yB (PW.pt (xJ (yM (yA (zI qO ‹hr› rfl T.qt T.qp T.qm .nil zM (zA (yC zU (pv 6) zE (fun _ _ => rfl)) (zA (yC zU (pv 2) zE (fun _ _ => rfl)) (zA (pv 4) (zA xK zB))))))) (xC (yM (yA (zI qO ‹hr› rfl T.qt T.qp T.qm .nil zM (zA (yC zU (pv 6) zE (fun _ _ => rfl)) (zA (yC zU (pv 2) zE (fun _ _ => rfl)) (zA (pv 4) (zA xK zB)))))))))) (zF (zG xK)) zO)
     (zC (yB (yM (yA (zI qP ‹hr› rfl T.qx T.qw T.qu .nil zM (zA (pv 11) (zA (yC zU (pv 2) zE (fun _ _ => rfl)) (zA (pv 9) (zA (xU (yQ (x := "_law_row") (M := ["_law_script", "_law_cells", "_law_names", "_law_kind_here", "_law_saying_here", "_law_test", "_law_rows", "_law_turn", "_law_some", "_law_each", "_law_ways", "_law_sheet", "_law_other", "_law_paper"]) rfl (by rfl)) rfl (oU (pv 8)) (fun _ _ _ _ => K1 (by exact (zZ (pv 0) rfl)) (by dsimp only [iZ] <;> rfl))) (zA (yZ (zA (nq (zA (yC zU (pv 2) zE (fun _ _ => rfl)) (zA (pv 4) zB))) (zA (nq (zA zJ (zA yS zB))) zB))) zB)))))))) (zF (zG xK)) zO)
     (zC (yB (yM (yA (zI qP ‹hr› rfl T.qx T.qw T.qu .nil zM (zA (pv 12) (zA (yC zU (pv 2) zE (fun _ _ => rfl)) (zA (yC zU (pv 2) zE (fun _ _ => rfl)) (zA (yZ zB) (zA (yZ zB) zB)))))))) (zF (zG xK)) zO)
     (zC (yB (PW.pt (xJ (yM (yA (zR yO (by rfl) T.aJ Bt.isinstance (zA (zZ (pv 13) rfl) (zA (xO (v := .ty "list") rfl T.oE Bt.list rfl) zB))))) (xC (zQ (VM (aaY hr)) (xU (yQ (x := "_law_one") (M := ["_law_script", "_law_cells", "_law_names", "_law_kind_here", "_law_saying_here", "_law_test", "_law_rows", "_law_turn", "_law_some", "_law_each", "_law_ways", "_law_sheet", "_law_other", "_law_paper"]) rfl (by rfl)) rfl (oU (zZ (pv 13) rfl)) (fun _ _ _ _ => K1 (by exact (zZ (pv 0) rfl)) (by dsimp only [iZ] <;> rfl))) (yW EY (pv 2) (xA zE) (xA zE)) (zS _))))) (zF (zG xK)) zO)
     (zC (yB (PW.pt (xJ (yM (yA (zI dR ‹hr› rfl T.gK T.gJ T.gH .nil zM (zA (zZ (pv 13) rfl) (zA (yC zU (pv 2) zE (fun _ _ => rfl)) zB))))) (xC (yM (yA (zR yO (by rfl) T.aJ Bt.isinstance (zA (zZ (pv 13) rfl) (zA (xO (v := .ty "list") rfl T.oE Bt.list rfl) zB)))))))) (zF (zG xK)) zO)
     (zF (zG (xF (aaX (aaY hr)) (zZ (pv 13) rfl) (yZ (zA (nq (zA (yC zU (pv 2) zE (fun _ _ => rfl)) (zA (yZ (zA (nq (zA zE (zA (yC zU (pv 2) zE (fun _ _ => rfl)) zB))) (zA (nq (zA (vI pC zE) (zA yS zB))) zB))) zB))) zB)) (zS _))))))))))))))))))))))))), ?_⟩
 generalize h0 : L2.start _ [V.ref a] = σ0
 have h0 : σ0 = [some (.ref a), none, none, none, none, none, none, none, none, none, none, none, none, none] := by rw [← h0]; rfl
 subst h0
 refine ⟨_, rfl, (by decide), (by decide), ?_⟩
 refine Ni (n := 8) (zN (m := 100) (by decide)) (fun i ys H' => H = H' ∧ ∃ cs : List Int, ys = cs.map V.int ∧ cs.length = i) ⟨rfl, [], rfl, rfl⟩ (fun i ys H' hi _ hw => ?_) (fun ys H' _ hw pc hpc => ?_)
 · obtain ⟨rfl, cs, rfl, hl⟩ := hw
   exact ⟨_, rfl, _, rfl, a, ns, 0 + (i : Nat), rfl, hS, by omega, Vu, fun c _ => ⟨rfl, cs ++ [c], by rw [List.map_append]; rfl, by rw [List.length_append, hl]; rfl⟩⟩
 obtain ⟨rfl, cs, rfl, hl⟩ := hw
 obtain ⟨c0, c1, c2, c3, c4, c5, c6, c7, rfl⟩ := ae7 hl
 have sc := zK hpc (.lst ([c0, c1, c2, c3, c4, c5, c6, c7].map V.int))
 have Zo : upd H pc (.lst ([c0, c1, c2, c3, c4, c5, c6, c7].map V.int)) pc = some (.lst ([c0, c1, c2, c3, c4, c5, c6, c7].map V.int)) := zD
 generalize upd H pc (.lst ([c0, c1, c2, c3, c4, c5, c6, c7].map V.int)) = H1 at *
 refine ⟨_, rfl, pc, rfl, ⟨_, bz.of Zo⟩, ?_⟩
 refine xR (xs := [c0, c1, c2, c3, c4, c5, c6, c7].map V.int) (zN (m := 8) (Nat.le_refl _)) (fun i ys H' => aB H1 H' ∧ ∃ zs : List Str, ys = zs.map V.str ∧ zs.length = i ∧ ∀ z ∈ zs, nameB z = true) ⟨aB.refl _, [], rfl, rfl, fun z h => by cases h⟩ (fun i ys H' hw => bz.of (hw.1 _ _ Zo)) (fun i x ys H' hx _ hw => ?_) (fun ys H' _ hw pn hpn => ?_)
 · obtain ⟨sH, zs, rfl, hzl, hzn⟩ := hw
   obtain ⟨c, _, rfl⟩ := qX hx
   refine ⟨_, rfl, c, rfl, fun z H2 hz s2 => ⟨sH.trans s2, zs ++ [z], by rw [List.map_append]; rfl, by rw [List.length_append, hzl]; rfl, fun y hy => ?_⟩⟩
   rcases List.mem_append.mp hy with e | e
   · exact hzn y e
   · rw [List.mem_singleton.mp e]; exact hz
 obtain ⟨sH, zs, rfl, hzl, hzn⟩ := hw
 obtain ⟨z0, z1, z2, z3, z4, z5, z6, z7, rfl⟩ := ae7 hzl
 have sn := zK hpn (.lst ([z0, z1, z2, z3, z4, z5, z6, z7].map V.str))
 have ae8 : upd H' pn (.lst ([z0, z1, z2, z3, z4, z5, z6, z7].map V.str)) pn = some (.lst ([z0, z1, z2, z3, z4, z5, z6, z7].map V.str)) := zD
 have Zq := sn _ _ (sH _ _ Zo)
 generalize upd H' pn (.lst ([z0, z1, z2, z3, z4, z5, z6, z7].map V.str)) = H2 at *
 have ac : ∀ {k : Nat} {c : Int}, [c0, c1, c2, c3, c4, c5, c6, c7][k]? = some c → wB ([c0, c1, c2, c3, c4, c5, c6, c7].map V.int) ((k : Nat) : Int) = some (.int c) := fun {k c} h => yG (by rw [List.getElem?_map, h]; rfl)
 have an : ∀ {k : Nat} {z : Str}, [z0, z1, z2, z3, z4, z5, z6, z7][k]? = some z → wB ([z0, z1, z2, z3, z4, z5, z6, z7].map V.str) ((k : Nat) : Int) = some (.str z) := fun {k z} h => yG (by rw [List.getElem?_map, h]; rfl)
 try dsimp only [gf, List.set_cons_succ, List.set_cons_zero]
 refine ⟨_, rfl, pc, _, _, _, rfl, rfl, bz.of Zq, ac (k := 1) rfl, c1, rfl, fun ku H3 gk s3 => ?_⟩
 try dsimp only [gf, List.set_cons_succ, List.set_cons_zero]
 refine ⟨_, rfl, pc, _, _, _, rfl, rfl, bz.of (s3 _ _ Zq), ac (k := 2) rfl, c2, 3, rfl, by decide, by decide, fun t H4 ot dt zt s4 => ?_⟩
 have g : GT t := ⟨ot, by omega, by have : 2 ^ 3 = 8 := rfl; omega⟩
 have fw := Sy g.1
 have es : cR (cd (S (pA t))) = wL t := fw.split (Sg t)
 have hl := rY g.1
 have rg := Xd g.1 g.b.1 g.b.2.1
 try dsimp only [gf, List.set_cons_succ, List.set_cons_zero]
 refine ⟨_, rfl, .str (S (pA t)), rfl, .inl ⟨_, rfl, fw.fine (by show (pA t).length ≤ 100000; have := g.b.2.2; omega), (by rw [es]; exact fun l hl => (fw l hl).1), fun t' e u H5 s5 hu => ?_, fun e => ?_⟩⟩
 rotate_left
 · rw [es, rg] at e; cases e
 rw [es, rg] at e
 cases e
 have s25 := s3.trans (s4.trans s5)
 have Ut := s25 _ _ ae8
 have tk := Um gk
 have fk := Xm gk
 have ggk := gk.good
 try dsimp only [gf, List.set_cons_succ, List.set_cons_zero]
 refine ⟨_, rfl, pn, _, _, _, rfl, rfl, bz.of Ut, an (k := 0) rfl, _, rfl, _, rfl, .inl ⟨_, rfl, fk, fun ku' e k1 H6 s6 hk1 => ?_, fun e => ?_⟩⟩
 rotate_left
 · rw [dq, tk] at e; cases e
 rw [dq, tk] at e
 cases e
 intro x1 d1 nx1 nd1 ne1
 refine ⟨x1, d1, _, _, _, rfl, zD, rfl, ?_⟩
 rw [yH]
 have s7 := yK nx1 nd1 (JB A d1 (.str z0) (.ref k1) .non)
 have hx1 : upd (upd H6 d1 (.own x1)) x1 (JB A d1 (.str z0) (.ref k1) .non) x1 = some (JB A d1 (.str z0) (.ref k1) .non) := zD
 generalize upd (upd H6 d1 (.own x1)) x1 (JB A d1 (.str z0) (.ref k1) .non) = H7 at *
 have s57 := s6.trans s7
 refine ⟨_, rfl, pn, _, _, _, rfl, rfl, bz.of (s57 _ _ Ut), an (k := 1) rfl, _, rfl, ?_⟩
 intro x2 d2 nx2 nd2 ne2
 refine ⟨x2, d2, _, _, _, rfl, zD, rfl, ?_⟩
 rw [yH]
 have s8 := yK nx2 nd2 (Xf A d2 (.str z1) u (.bl true))
 have hx2 : upd (upd H7 d2 (.own x2)) x2 (Xf A d2 (.str z1) u (.bl true)) x2 = some (Xf A d2 (.str z1) u (.bl true)) := zD
 generalize upd (upd H7 d2 (.own x2)) x2 (Xf A d2 (.str z1) u (.bl true)) = H8 at *
 have s58 := s57.trans s8
 refine ⟨_, rfl, pn, _, _, _, rfl, rfl, bz.of (s58 _ _ Ut), an (k := 2) rfl, _, rfl, _, rfl, .inl ⟨_, rfl, fk, fun ku' e k2 H9 s9 hk2 => ?_, fun e => ?_⟩⟩
 rotate_left
 · rw [dq, tk] at e; cases e
 rw [dq, tk] at e
 cases e
 refine ⟨_, rfl, ?_⟩
 intro x3 d3 nx3 nd3 ne3
 refine ⟨x3, d3, _, _, _, rfl, zD, rfl, ?_⟩
 rw [yH]
 have s10 := yK nx3 nd3 (JB A d3 (.str z2) (.ref k2) u)
 have hx3 : upd (upd H9 d3 (.own x3)) x3 (JB A d3 (.str z2) (.ref k2) u) x3 = some (JB A d3 (.str z2) (.ref k2) u) := zD
 generalize upd (upd H9 d3 (.own x3)) x3 (JB A d3 (.str z2) (.ref k2) u) = H10 at *
 have Zr := s9.trans s10
 have ae9 := s58.trans Zr
 refine ⟨(by show 3 ≤ sizeLine; decide), fun pl hpl => ?_⟩
 have sl := zK hpl (.lst [.ref x1, .ref x2, .ref x3])
 have abJ : upd H10 pl (.lst [.ref x1, .ref x2, .ref x3]) pl = some (.lst [.ref x1, .ref x2, .ref x3]) := zD
 generalize upd H10 pl (.lst [.ref x1, .ref x2, .ref x3]) = H11 at *
 try dsimp only [gf, List.set_cons_succ, List.set_cons_zero]
 refine ⟨_, rfl, Or.inl ⟨rfl, _, bz.of abJ⟩, ?_⟩
 refine ⟨_, rfl, pn, _, _, _, rfl, rfl, bz.of (sl _ _ (ae9 _ _ Ut)), an (k := 3) rfl, _, rfl, ?_⟩
 intro x4 d4 nx4 nd4 ne4
 refine ⟨x4, d4, _, _, _, rfl, zD, rfl, ?_⟩
 rw [yH]
 have s12 := yK nx4 nd4 (Xf A d4 (.str z3) u (.bl false))
 have hx4 : upd (upd H11 d4 (.own x4)) x4 (Xf A d4 (.str z3) u (.bl false)) x4 = some (Xf A d4 (.str z3) u (.bl false)) := zD
 generalize upd (upd H11 d4 (.own x4)) x4 (Xf A d4 (.str z3) u (.bl false)) = H12 at *
 have abK := s12 _ _ abJ
 refine ⟨pl, _, _, rfl, rfl, abK, (by show 3 < sizeLine; decide), ?_⟩
 have ap6 : x4 ≠ pl := fun e => by rw [e, abK] at hx4; cases hx4
 have s13 : aB H10 (upd H12 pl (.lst ([.ref x1, .ref x2, .ref x3] ++ [.ref x4]))) := fun b o hb => by
   rw [zP (zV hb hpl)]; exact s12 _ _ (sl _ _ hb)
 have abL : upd H12 pl (.lst ([.ref x1, .ref x2, .ref x3] ++ [.ref x4])) pl = some (.lst [.ref x1, .ref x2, .ref x3, .ref x4]) := zD
 have afa : upd H12 pl (.lst ([.ref x1, .ref x2, .ref x3] ++ [.ref x4])) x4 = some (Xf A d4 (.str z3) u (.bl false)) := by rw [zP ap6]; exact hx4
 generalize upd H12 pl (.lst ([.ref x1, .ref x2, .ref x3] ++ [.ref x4])) = H13 at *
 have abM := ae9.trans s13
 have Z9 := abM _ _ Ut
 have aaa := abM _ _ (s25 _ _ Zq)
 have ap7 : m8 A H13 t u := hu.same abM
 have afb := (s8.trans (Zr.trans s13)) _ _ hx1
 have afc := (Zr.trans s13) _ _ hx2
 have afd := s13 _ _ hx3
 have hk1' := hk1.same (s7.trans (s8.trans (Zr.trans s13)))
 have ap8 := hk2.same (s10.trans s13)
 clear hx1 hx2 hx3 hx4 hk1 hk2 abJ abK sl s12 Ut Zo Zq ae8
 have hN : Paired (Zn K H13) [.ref x1, .ref x2, .ref x3, .ref x4] [z0, z1, z2, z3] := .cons ⟨x1, _, d1, _, rfl, afb, T.rQ, T.o8, rfl⟩ (.cons ⟨x2, _, d2, _, rfl, afc, T.jz, T.kI, rfl⟩ (.cons ⟨x3, _, d3, _, rfl, afd, T.rQ, T.o8, rfl⟩ (.cons ⟨x4, _, d4, _, rfl, afa, T.jz, T.kI, rfl⟩ .nil)))
 refine ⟨_, rfl, pc, _, _, _, rfl, rfl, bz.of aaa, ac (k := 0) rfl, _, _, rfl, rfl, (by show (0 : Int) < 4; decide), ?_⟩
 obtain ⟨k, hk, hk4⟩ : ∃ k : Nat, c0 % 4 = ((k : Nat) : Int) ∧ k < 4 := ⟨(c0 % 4).toNat, by have := Int.emod_nonneg c0 (b := 4) (by decide); omega, by have := Int.emod_nonneg c0 (b := 4) (by decide); have := Int.emod_lt_of_pos c0 (b := 4) (by decide); omega⟩
 dsimp only [gf, List.set_cons_succ, List.set_cons_zero]
 rw [hk]
 obtain ⟨ct1, ct2⟩ := ap2 (a := .ref x1) (b := .ref x2) (c := .ref x3) (d := .ref x4) hk4
 refine ⟨_, rfl, _, rfl, _, rfl, pl, _, rfl, bz.of abL, fun s1 hs1 => ?_⟩
 rw [ct1]
 have t1 := zK hs1 (.lst ([V.ref x1, .ref x2, .ref x3, .ref x4].drop k))
 refine ⟨_, rfl, _, rfl, _, rfl, pl, _, rfl, bz.of (t1 _ _ abL), fun s2 hs2 => ?_⟩
 rw [ct2]
 have t2 := zK hs2 (.lst ([V.ref x1, .ref x2, .ref x3, .ref x4].take k))
 have hL4 : ([V.ref x1, .ref x2, .ref x3, .ref x4].drop k).length + ([V.ref x1, .ref x2, .ref x3, .ref x4].take k).length = 4 := by
   rw [List.length_drop, List.length_take]; show 4 - k + min k 4 = 4; omega
 refine ⟨s1, s2, _, _, rfl, rfl, t2 _ _ zD, zD, zN (m := 4) (by omega), fun ps hps => ?_⟩
 have hNL := HW (Ih hN k).1 (Ih hN k).2
 have abN : ([V.ref x1, .ref x2, .ref x3, .ref x4].drop k ++ [V.ref x1, .ref x2, .ref x3, .ref x4].take k).length ≤ 10 := by rw [List.length_append]; omega
 generalize [V.ref x1, .ref x2, .ref x3, .ref x4].drop k ++ [V.ref x1, .ref x2, .ref x3, .ref x4].take k = L at hNL abN ⊢
 generalize [z0, z1, z2, z3].drop k ++ [z0, z1, z2, z3].take k = N at hNL
 have t3 := zK hps (.lst L)
 have t13 := t1.trans (t2.trans t3)
 have afe : upd (upd (upd H13 s1 (.lst ([V.ref x1, .ref x2, .ref x3, .ref x4].drop k))) s2 (.lst ([V.ref x1, .ref x2, .ref x3, .ref x4].take k))) ps (.lst L) ps = some (.lst L) := zD
 generalize upd (upd (upd H13 s1 (.lst ([V.ref x1, .ref x2, .ref x3, .ref x4].drop k))) s2 (.lst ([V.ref x1, .ref x2, .ref x3, .ref x4].take k))) ps (.lst L) = H14 at t13 afe ⊢
 have Xn := t13 _ _ Z9
 have afg := t13 _ _ aaa
 try dsimp only [gf, List.set_cons_succ, List.set_cons_zero]
 refine ⟨_, rfl, pn, _, _, _, rfl, rfl, bz.of Xn, an (k := 4) rfl, (by show 2 ≤ sizeLine; decide), fun pe hpe => ?_⟩
 have t4 := zK hpe (.lst [.non, .str z4])
 obtain ⟨e, he⟩ : ∃ e : Option Str, wB [V.non, .str z4] (c4 % 2) = some (eV e) := by
   rcases (by omega : c4 % 2 = ((0 : Nat) : Int) ∨ c4 % 2 = ((1 : Nat) : Int)) with h | h <;> rw [h]
   · exact ⟨none, yG rfl⟩
   · exact ⟨some z4, yG rfl⟩
 refine ⟨_, rfl, pc, _, _, _, rfl, rfl, bz.of (t4 _ _ afg), ac (k := 4) rfl, _, _, rfl, rfl, (by show (0 : Int) < 2; decide), pe, _, _, _, rfl, rfl, bz.of zD, he, ?_⟩
 generalize upd H14 pe (.lst [.non, .str z4]) = H15 at *
 have afh := t4 _ _ Xn
 try dsimp only [gf, List.set_cons_succ, List.set_cons_zero]
 refine ⟨_, rfl, pn, _, _, _, rfl, rfl, bz.of afh, an (k := 5) rfl, _, rfl, (by show 2 ≤ sizeLine; decide), fun w1 hw1 => ⟨(by show 2 ≤ sizeLine; decide), fun w2 hw2 => ⟨(by show 2 ≤ sizeLine; decide), fun pw hpw => ?_⟩⟩⟩
 have t5 := zK hw1 (.tup [.str z5, u])
 have t6 := zK hw2 (.tup [.str ‹"end"›, .non])
 have t7 := zK hpw (.lst [.ref w1, .ref w2])
 have afi := (t6.trans t7) _ _ (zD (H := H15) (a := w1) (o := .tup [.str z5, u]))
 have afj := t7 _ _ (zD (H := upd H15 w1 (.tup [.str z5, u])) (a := w2) (o := .tup [.str ‹"end"›, .non]))
 have afk := zD (H := upd (upd H15 w1 (.tup [.str z5, u])) w2 (.tup [.str ‹"end"›, .non])) (a := pw) (o := .lst [.ref w1, .ref w2])
 have t57 := t5.trans (t6.trans t7)
 generalize upd (upd (upd H15 w1 (.tup [.str z5, u])) w2 (.tup [.str ‹"end"›, .non])) pw (.lst [.ref w1, .ref w2]) = H16 at t57 afi afj afk ⊢
 have abO := t4.trans t57
 have aab := abO _ _ afe
 have aac := abO _ _ Xn
 try dsimp only [gf, List.set_cons_succ, List.set_cons_zero]
 refine ⟨_, rfl, pn, _, _, _, rfl, rfl, bz.of aac, an (k := 6) rfl, _, rfl, _, rfl, ps, _, rfl, .inl (bz.of aab), fun l1 hl1 => ?_⟩
 have t8 := zK hl1 (.lst L)
 refine ⟨_, rfl, pw, _, rfl, .inl (bz.of (t8 _ _ afk)), fun l2 hl2 => ?_⟩
 have t9 := zK hl2 (.lst [.ref w1, .ref w2])
 have hl1' := t9 _ _ (zD (H := H16) (a := l1) (o := .lst L))
 have hl2' := zD (H := upd H16 l1 (.lst L)) (a := l2) (o := .lst [.ref w1, .ref w2])
 have t89 := t8.trans t9
 generalize upd (upd H16 l1 (.lst L)) l2 (.lst [.ref w1, .ref w2]) = H17 at t89 hl1' hl2' ⊢
 intro xs dxs nxs nds nes
 have m1 := yK nxs nds (.ins A.jw dxs [])
 refine ⟨xs, dxs, _, _, l1, l2, _, _, rfl, zD, m1 _ _ hl1', m1 _ _ hl2', fun q1 q2 H18 n12 _ _ F18 hxs hq1 hq2 => ⟨rfl, ?_⟩⟩
 have t10 : aB H17 H18 := fun b o hb => F18 _ _ (m1 _ _ hb) (Us (zV hb nxs))
 have aad := t89.trans t10
 have Xo := aad _ _ aac
 try dsimp only [gf, List.set_cons_succ, List.set_cons_zero]
 refine ⟨_, rfl, pn, _, _, _, rfl, rfl, bz.of Xo, an (k := 7) rfl, _, rfl, pn, _, _, _, rfl, rfl, bz.of Xo, an (k := 0) rfl, (by show 0 ≤ sizeLine; decide), fun l3 hl3 => ⟨(by show 0 ≤ sizeLine; decide), fun l4 hl4 => ?_⟩⟩
 have t11 := zK hl3 (.lst [])
 have t12 := zK hl4 (.lst [])
 have afl := t12 _ _ (zD (H := H18) (a := l3) (o := .lst []))
 have afm := zD (H := upd H18 l3 (.lst [])) (a := l4) (o := .lst [])
 have aae := t11.trans t12
 generalize upd (upd H18 l3 (.lst [])) l4 (.lst []) = H19 at aae afl afm ⊢
 intro xo dxo nxo ndo neo
 have m2 := yK nxo ndo (.ins A.jw dxo [])
 refine ⟨xo, dxo, _, _, l3, l4, _, _, rfl, zD, m2 _ _ afl, m2 _ _ afm, fun q3 q4 H20 n34 _ _ F20 hxo hq3 hq4 => ⟨rfl, ?_⟩⟩
 have aqc : aB H19 H20 := fun b o hb => F20 _ _ (m2 _ _ hb) (Us (zV hb nxo))
 have aaf := aae.trans aqc
 have aag := aaf _ _ Xo
 try dsimp only [gf, List.set_cons_succ, List.set_cons_zero]
 refine ⟨_, rfl, pn, _, _, _, rfl, rfl, bz.of aag, an (k := 3) rfl, _, rfl, _, rfl, (by show 2 ≤ sizeLine; decide), fun l5 hl5 => ?_⟩
 have t14 := zK hl5 (.lst [.ref xs, .ref xo])
 have aqd : upd H20 l5 (.lst [.ref xs, .ref xo]) l5 = some (.lst [.ref xs, .ref xo]) := zD
 generalize upd H20 l5 (.lst [.ref xs, .ref xo]) = H21 at *
 have aah := t14 _ _ aag
 refine ⟨_, rfl, pn, _, _, _, rfl, rfl, bz.of aah, an (k := 2) rfl, _, rfl, pn, _, _, _, rfl, rfl, bz.of aah, an (k := 0) rfl, (by show 2 ≤ sizeLine; decide), fun b1 hb1 => ⟨_, rfl, (by show 2 ≤ sizeLine; decide), fun b2 hb2 => ⟨(by show 2 ≤ sizeLine; decide), fun l6 hl6 => ⟨(by show 2 ≤ sizeLine; decide), fun b3 hb3 => ⟨(by show 1 ≤ sizeLine; decide), fun l7 hl7 => ?_⟩⟩⟩⟩⟩
 have v1 := zK hb1 (.tup [.int 2, .str z0])
 have v2 := zK hb2 (.tup [.int (-3), .non])
 have v3 := zK hl6 (.lst [.ref b1, .ref b2])
 have v4 := zK hb3 (.tup [.str z2, .ref l6])
 have v5 := zK hl7 (.lst [.ref b3])
 have v15 := v1.trans (v2.trans (v3.trans (v4.trans v5)))
 have g1 := (v2.trans (v3.trans (v4.trans v5))) _ _ (zD (H := H21) (a := b1) (o := .tup [.int 2, .str z0]))
 have g2 := (v3.trans (v4.trans v5)) _ _ (zD (a := b2) (o := .tup [.int (-3), .non]))
 have g3 := (v4.trans v5) _ _ (zD (a := l6) (o := .lst [.ref b1, .ref b2]))
 have g4 := v5 _ _ (zD (a := b3) (o := .tup [.str z2, .ref l6]))
 have g5 := zD (H := upd (upd (upd (upd H21 b1 (.tup [.int 2, .str z0])) b2 (.tup [.int (-3), .non])) l6 (.lst [.ref b1, .ref b2])) b3 (.tup [.str z2, .ref l6])) (a := l7) (o := .lst [.ref b3])
 generalize upd (upd (upd (upd (upd H21 b1 (.tup [.int 2, .str z0])) b2 (.tup [.int (-3), .non])) l6 (.lst [.ref b1, .ref b2])) b3 (.tup [.str z2, .ref l6])) l7 (.lst [.ref b3]) = H22 at v15 g1 g2 g3 g4 g5 ⊢
 intro xp dxp nxp ndp nep
 have m3 := yK nxp ndp (.ins A.iT dxp [])
 refine ⟨xp, dxp, _, l5, l7, _, _, z2, z0, rfl, zD, m3 _ _ (v15 _ _ aqd), m3 _ _ g5, ⟨b3, l6, b1, b2, rfl, m3 _ _ g4, m3 _ _ g3, m3 _ _ g1, m3 _ _ g2⟩, fun q5 q6 tv H23 F23 hxp hq5 hq6 htv => ⟨rfl, ?_⟩⟩
 have t15 : aB H22 H23 := fun b o hb => F23 _ _ (m3 _ _ hb) (Us (zV hb nxp))
 have SN := t14.trans (v15.trans t15)
 have SQ := aaf.trans SN
 have SX := aad.trans SQ
 have tA := t13.trans (abO.trans SX)
 have Kr := tA _ _ Z9
 have Xp := tA _ _ abL
 have Zt := ap7.same tA
 have aqg := tA _ _ afb
 have aqh := tA _ _ afc
 have aqi := tA _ _ afd
 have aqj := tA _ _ afa
 have aqk := hk1'.same tA
 have aql := ap8.same tA
 have hNF := lE (fun _ _ k => Zn.same tA k) hNL
 have aai := SX _ _ aab
 have afn := SQ _ _ hxs
 have aqn := SQ _ _ hq1
 have aqo := SQ _ _ hq2
 have aqp := SX _ _ afi
 have aqq := SX _ _ afj
 have afo := SN _ _ hxo
 have aqr := SN _ _ hq3
 have aqs := SN _ _ hq4
 have ar : ∀ {j : Nat} {x : V}, [V.ref x1, .ref x2, .ref x3, .ref x4][j]? = some x → wB [V.ref x1, .ref x2, .ref x3, .ref x4] ((j : Nat) : Int) = some x := fun h => yG h
 try dsimp only [gf, List.set_cons_succ, List.set_cons_zero]
 refine ⟨_, rfl, pl, _, _, _, rfl, rfl, bz.of Xp, ar (j := 0) rfl, _, rfl, pn, _, _, _, rfl, rfl, bz.of Kr, an (k := 0) rfl, _, rfl, x1, d1, z0, k1, ku, .non, none, rfl, aqg, aqk, ggk, rfl, (fun t e => by cases e), fun H24 u1 => ⟨_, rfl, aM ?_⟩⟩
 refine ⟨_, rfl, pl, _, _, _, rfl, rfl, bz.of (u1 _ _ Xp), ar (j := 2) rfl, _, rfl, pn, _, _, _, rfl, rfl, bz.of (u1 _ _ Kr), an (k := 2) rfl, _, rfl, _, rfl, x3, d3, z2, k2, ku, u, some t, rfl, u1 _ _ aqi, aql.same u1, ggk, Zt.same u1, (fun t' e => by cases e; exact g), fun H25 u2 => ⟨_, rfl, aM ?_⟩⟩
 have XF := u1.trans u2
 have aaj := XF _ _ Xp
 have S5 := XF _ _ Kr
 refine ⟨_, rfl, pl, _, _, _, rfl, rfl, bz.of aaj, ar (j := 1) rfl, _, rfl, pn, _, _, _, rfl, rfl, bz.of S5, an (k := 1) rfl, _, rfl, x2, d2, z1, u, t, true, rfl, XF _ _ aqh, Zt.same XF, g, _, rfl, aM ?_⟩
 refine ⟨_, rfl, pl, _, _, _, rfl, rfl, bz.of aaj, ar (j := 3) rfl, _, rfl, pn, _, _, _, rfl, rfl, bz.of S5, an (k := 3) rfl, _, rfl, x4, d4, z3, u, t, false, rfl, XF _ _ aqj, Zt.same XF, g, _, rfl, aM ?_⟩
 refine ⟨_, rfl, _, rfl, pn, _, _, _, rfl, rfl, bz.of S5, an (k := 6) rfl, _, rfl, _, rfl, ps, rfl, ⟨_, bz.of (XF _ _ aai)⟩, ?_⟩
 have aqu := lE (fun _ _ k => Zn.same XF k) hNF
 refine xR (xs := L) (zN (m := 10) abN) (fun i ys H' => H25 = H' ∧ ys = (N.take i).map V.str) ⟨rfl, rfl⟩ (fun i ys H' hw => hw.1 ▸ bz.of (XF _ _ aai)) (fun i x ys H' hx _ hw => ?_) (fun ys H' _ hw pN hpN => ?_)
 · obtain ⟨rfl, rfl⟩ := hw
   obtain ⟨y, hyi, b, C, dxb, fs, rfl, hb, cl, na, hl⟩ := qK aqu hx
   refine ⟨_, rfl, b, C, dxb, fs, _, rfl, hb, cl, na, hl, rfl, ?_⟩
   rw [List.take_succ, hyi, List.map_append]; rfl
 obtain ⟨rfl, rfl⟩ := hw
 rw [xQ hNF, List.take_length]
 have u3 := zK hpN (.lst (N.map V.str))
 have aqv : upd H25 pN (.lst (N.map V.str)) pN = some (.lst (N.map V.str)) := zD
 generalize upd H25 pN (.lst (N.map V.str)) = H26 at *
 refine ⟨_, rfl, pn, _, _, _, rfl, rfl, bz.of (u3 _ _ S5), an (k := 5) rfl, _, rfl, (by show 2 ≤ sizeLine; decide), fun y1 hy1 => ⟨(by show 2 ≤ sizeLine; decide), fun y2 hy2 => ⟨(by show 2 ≤ sizeLine; decide), fun pd hpd => ?_⟩⟩⟩
 have u4 := zK hy1 (.tup [.str z5, .str (S (pA t))])
 have u5 := zK hy2 (.tup [.str ‹"end"›, .non])
 have u6 := zK hpd (.lst [.ref y1, .ref y2])
 have afp := (u5.trans u6) _ _ (zD (H := H26) (a := y1) (o := .tup [.str z5, .str (S (pA t))]))
 have afq := u6 _ _ (zD (H := upd H26 y1 (.tup [.str z5, .str (S (pA t))])) (a := y2) (o := .tup [.str ‹"end"›, .non]))
 have afr := zD (H := upd (upd H26 y1 (.tup [.str z5, .str (S (pA t))])) y2 (.tup [.str ‹"end"›, .non])) (a := pd) (o := .lst [.ref y1, .ref y2])
 have u46 := u4.trans (u5.trans u6)
 generalize upd (upd (upd H26 y1 (.tup [.str z5, .str (S (pA t))])) y2 (.tup [.str ‹"end"›, .non])) pd (.lst [.ref y1, .ref y2]) = H27 at u46 afp afq afr ⊢
 have u17 := XF.trans (u3.trans u46)
 refine ⟨xs, dxs, z6, e, q1, q2, pN, pd, L, [.ref w1, .ref w2], [.ref y1, .ref y2], N, [(z5, some t), (Str.ofString "end", none)], rfl, u17 _ _ afn, u17 _ _ aqn, u17 _ _ aqo, u46 _ _ aqv, afr, lE (fun _ _ k => Zn.same u17 k) hNF, .cons ⟨w1, u, rfl, u17 _ _ aqp, Zt.same u17⟩ (.cons ⟨w2, .non, rfl, u17 _ _ aqq, rfl⟩ .nil), .cons ⟨y1, rfl, afp⟩ (.cons ⟨y2, rfl, afq⟩ .nil), ?_, abN, fun H28 u7 => ⟨_, rfl, aM ?_⟩⟩
 · intro c hc t' e'
   rcases List.mem_cons.mp hc with h | h
   · rw [h] at e'; cases e'; exact g
   · rw [List.mem_singleton.mp h] at e'; cases e'
 have u18 := u17.trans u7
 have aal := u18 _ _ Kr
 refine ⟨_, rfl, _, rfl, pn, _, _, _, rfl, rfl, bz.of aal, an (k := 7) rfl, _, rfl, pn, _, _, _, rfl, rfl, bz.of aal, an (k := 0) rfl, (by show 0 ≤ sizeLine; decide), fun e1 he1 => ⟨(by show 0 ≤ sizeLine; decide), fun e2 he2 => ?_⟩⟩
 have u9 := zK he1 (.lst [])
 have u10 := zK he2 (.lst [])
 have aft := u10 _ _ (zD (H := H28) (a := e1) (o := .lst []))
 have afu := zD (H := upd H28 e1 (.lst [])) (a := e2) (o := .lst [])
 have u19 := u18.trans (u9.trans u10)
 generalize upd (upd H28 e1 (.lst [])) e2 (.lst []) = H29 at u19 aft afu ⊢
 refine ⟨xo, dxo, z7, some z0, q3, q4, e1, e2, [], [], [], [], [], rfl, u19 _ _ afo, u19 _ _ aqr, u19 _ _ aqs, aft, afu, .nil, .nil, .nil, (fun c h => by cases h), by decide, fun H30 u11 => ⟨_, rfl, aM ?_⟩⟩
 have u20 := u19.trans u11
 have aam := u20 _ _ hxp
 have abQ := u20 _ _ hq5
 refine ⟨_, rfl, xp, _, dxp, _, _, rfl, aam, T.lC, T.lW, rfl, _, _, _, _, rfl, rfl, .old (.lst abQ), T.o6, _, rfl, aM ?_⟩
 refine ⟨_, rfl, xp, _, dxp, _, _, rfl, aam, T.lC, T.lW, rfl, q5, rfl, ⟨_, bz.of abQ⟩, ?_⟩
 have hNS : Paired (Zn K H30) [.ref xs, .ref xo] [z6, z7] := .cons ⟨xs, _, dxs, _, rfl, u20 _ _ afn, T.fH, T.kJ, rfl⟩ (.cons ⟨xo, _, dxo, _, rfl, u20 _ _ afo, T.fH, T.kJ, rfl⟩ .nil)
 refine xR (xs := [.ref xs, .ref xo]) (zN (m := 10) (by show 2 ≤ 10; decide)) (fun i ys H' => H30 = H' ∧ ys = ([z6, z7].take i).map V.str) ⟨rfl, rfl⟩ (fun i ys H' hw => hw.1 ▸ bz.of abQ) (fun i x ys H' hx _ hw => ?_) (fun ys H' _ hw pS hpS => ?_)
 · obtain ⟨rfl, rfl⟩ := hw
   obtain ⟨y, hyi, b, C, dxb, fs, rfl, hb, cl, na, hl⟩ := qK hNS hx
   refine ⟨_, rfl, b, C, dxb, fs, _, rfl, hb, cl, na, hl, rfl, ?_⟩
   rw [List.take_succ, hyi, List.map_append]; rfl
 obtain ⟨rfl, rfl⟩ := hw
 have r1 := zK hpS (.lst [V.str z6, .str z7])
 have afy : upd H30 pS (.lst [V.str z6, .str z7]) pS = some (.lst [V.str z6, .str z7]) := zD
 show _
 generalize hG : upd H30 pS (.lst [V.str z6, .str z7]) = H31 at r1 afy
 have hG' : upd H30 pS (.lst (([z6, z7].take [V.ref xs, V.ref xo].length).map V.str)) = H31 := hG
 rw [hG']
 have u21 := u20.trans r1
 have afz := u21 _ _ Kr
 refine ⟨_, rfl, _, rfl, _, rfl, pn, _, rfl, bz.of afz, fun pq hpq => ?_⟩
 have aqy : Il ([z0, z1, z2, z3, z4, z5, z6, z7].map V.str) (some 6) (some 8) = [V.str z6, .str z7] := rfl
 rw [aqy]
 have r2 := zK hpq (.lst [V.str z6, .str z7])
 refine ⟨_, uV (n := 19) (e := fun _ => true) (bz.of (r2 _ _ afy)) (bz.of zD) rfl (fun j x y hx hy => ?_), _, rfl, Rk (by simp) ?_⟩
 · have e' := Option.some.inj (hx.symm.trans hy)
   subst e'
   have hx : ([z6, z7].map V.str)[j]? = some x := hx
   obtain ⟨z', _, rfl⟩ := qX hx
   exact Rm _ _
 have u22 := u21.trans r2
 generalize upd H31 pq (.lst [V.str z6, .str z7]) = H32 at *
 have Xq := u22 _ _ hxp
 have Xr := u22 _ _ Kr
 have afA := u22 _ _ hq6
 refine ⟨_, rfl, xp, _, dxp, _, _, rfl, Xq, T.lC, T.wg, rfl, _, rfl, pn, _, _, _, rfl, rfl, bz.of Xr, an (k := 3) rfl, z3, rfl, _, rfl, aM ?_⟩
 refine ⟨_, rfl, xp, _, dxp, _, _, rfl, Xq, T.lC, T.lX, rfl, _, _, _, _, rfl, rfl, .old (.lst afA), T.o6, _, rfl, aM ?_⟩
 refine ⟨_, rfl, xp, _, dxp, _, _, rfl, Xq, T.lC, T.lX, rfl, ?_⟩
 refine ⟨_, rfl, pn, _, _, _, rfl, rfl, bz.of Xr, an (k := 2) rfl, _, rfl, pn, _, _, _, rfl, rfl, bz.of Xr, an (k := 0) rfl, (by show 2 ≤ sizeLine; decide), fun n1 hn1 => ⟨_, rfl, (by show 2 ≤ sizeLine; decide), fun n2 hn2 => ⟨(by show 2 ≤ sizeLine; decide), fun n3 hn3 => ⟨(by show 2 ≤ sizeLine; decide), fun n4 hn4 => ⟨(by show 1 ≤ sizeLine; decide), fun n5 hn5 => ?_⟩⟩⟩⟩⟩
 have o1 := zK hn1 (.tup [.int 2, .str z0])
 have o2 := zK hn2 (.tup [.int (-3), .non])
 have o3 := zK hn3 (.lst [.ref n1, .ref n2])
 have o4 := zK hn4 (.tup [.str z2, .ref n3])
 have o5 := zK hn5 (.lst [.ref n4])
 have o15 := o1.trans (o2.trans (o3.trans (o4.trans o5)))
 have j1 := (o2.trans (o3.trans (o4.trans o5))) _ _ (zD (H := H32) (a := n1) (o := .tup [.int 2, .str z0]))
 have j2 := (o3.trans (o4.trans o5)) _ _ (zD (a := n2) (o := .tup [.int (-3), .non]))
 have j3 := (o4.trans o5) _ _ (zD (a := n3) (o := .lst [.ref n1, .ref n2]))
 have j4 := o5 _ _ (zD (a := n4) (o := .tup [.str z2, .ref n3]))
 refine ⟨_, uV (n := 19) (e := fun _ => true) (bz.of (o15 _ _ afA)) (bz.of zD) rfl (fun j x y hx hy => ?_), q _⟩
 cases j with
 | succ j => simp at hx
 | zero =>
   cases hx; cases hy
   exact abI (htv.same (u22.trans o15)) ⟨n4, n3, n1, n2, rfl, j4, j3, j1, j2⟩
end
end fX.Y
namespace fX
open PySem L2
abbrev Ii := Y.Ii
theorem Rp {P : Program} {w : World} {K : W.Frag} {mg : Str → Option Value} {base : Heap} {A : dW} (T : Txt K mg A) : aF P w K mg base cD 50 A.RT A.RV ["_law_script"] (Ii K) := Y.Rp T
end fX
set_option maxHeartbeats 4000000
namespace fX
open PySem L2
theorem abR {K : W.Frag} {h : Heap} {mg : Str → Option Value} (X : K.In h) (G : h.Ns mainGlobals mg)
{f0 f1 dT1 f2 dT2 f3 f4 f5 f6 f7 f8 f9 dT9 f10 f11 f12 Zu f14 f15 f16 f17 f18 f19 f20 f21 f22 f23 abS f24 f25 f26 f27 f28 f29 f30 f31 WD abT f33 f34 f35 f36 f37 f38 f39 f40 f41 f42 f43 f44 f45 f46 f47 f48 f49 f50 f51 f52 f53 f54 f55 f56 f57 f58 f59 f60 f61 f62 f63 f64 f65 f66 f67 ga3 abU gO gP cO bM dm su Cg fj gj uP gQ oO lF Ij ik je sX Qd gm eG aC gn : Addr} {od0 an0 od1 an1 dD1 od2 an2 dD2 od3 an3 od4 an4 od5 an5 od6 an6 od7 an7 od8 an8 od9 an9 dD9 aqD afB aqE afC aqF afD aqG afE aqH afF aqI afG aqJ afH aqK afI aqL afJ aqM afK aqN afL aqO afM aqP afN aqQ afO aqR aqS afP aqT afQ aqU afR aqV afS aqW afT aqX afU aqY afV aqZ afW aq0 afX aq1 aq2 afY aq3 afZ aq4 af0 aq5 af1 aq6 af2 aq7 af3 aq8 af4 aq9 af5 ara af6 arb af7 arc af8 ard af9 arf aga arh agb ari agc arj agd ark age arl agf arn agg aro agh arp agi arq agj ars agk art agl aru agm arv agn arw ago arx agp arz agq arA agr arB ags arC agt arD agu arE agv arF agw gd3 arG : Option Addr} {sl0 sl1 dS1 sl2 dS2 sl3 sl4 sl5 sl6 sl7 sl8 sl9 dS9 arH arI arJ arK arL arM arN arO arP arQ arR arS arT arU arV arW arX arY arZ ar0 ar3 ar4 ar5 ar6 ar7 ar8 ar9 asa asb asd ase asf ash asi asj asl asm asn aso asp asq asr ass asu asv asw asx asy asz asA asB asC asD asF asG asH asI asJ asK asL gs3 asM : Array (Option Value)} {oc0 kV0 dc0 pm0 cd0 ct0 oc1 kV1 dc1 pm1 cd1 ct1 oc2 kV2 dc2 pm2 cd2 ct2 oc3 kV3 dc3 pm3 cd3 ct3 oc4 kV4 dc4 pm4 cd4 ct4 oc5 kV5 dc5 pm5 cd5 ct5 oc6 kV6 dc6 pm6 cd6 ct6 oc7 kV7 dc7 pm7 cd7 ct7 oc8 kV8 dc8 pm8 cd8 ct8 oc9 kV9 dc9 pm9 cd9 ct9 asZ agx agy agz abV agA as3 agB agC agD abW agE as4 agF agG agH abX agI as5 agJ agK agL abY agM as6 agN agO agP abZ agQ as7 agR agS agT ab0 agU as8 agV agW agX ab1 agY as9 agZ ag0 ag1 ab2 ag2 ata ag3 ag4 ag5 ab3 ag6 atb ag7 ag8 ag9 ab4 aha atc ahb ahc ahd ab5 ahe atd ahf ahg ahh ab6 ahi ate ahj ahk ahl ab7 ahm atf ahn aho ahp ab8 ahq atg ahr ahs aht ab9 ahu ath ahv ahw ahx aca ahy ati ahz ahA ahB acb ahC atj ahD ahE ahF acd ahG atk ahH ahI ahJ ace ahK atl ahL ahM ahN acf ahO atm ahP ahQ ahR acg ahS atn ahT ahU ahV ach ahW ato ahX ahY ahZ aci ah0 atp ah1 ah2 ah3 acj ah4 atq ah5 ah6 ah7 ack ah8 atr ah9 aia aib acn aic atu aid aie aif aco aih atv aii aij aik acp ail atw aim ain aio acq aip atx aiq air ais acr ait aty aiu aiv aiw acs aix atz aiy aiz aiA acu aiB atA aiC aiD aiE acv aiF atB aiG aiH aiI acw aiJ atD aiK aiL aiM acx aiN atE aiO aiP aiQ acy aiR atF aiS aiT aiU acz aiV atG aiW aiX aiY acA aiZ atH ai0 ai1 ai2 acB ai3 atJ ai4 ai5 ai6 acC ai7 atL ai8 ai9 aja acD ajb atM ajc ajd aje acE ajf atN ajg ajh aji acF ajj atO ajk ajl ajm acG ajn atP ajo ajp ajq acH ajr atQ ajs ajt aju acI ajv atR ajw ajx ajy acJ ajz atU ajA ajB ajC acK ajD atV ajE ajF ajG acL ajH atX ajI ajJ ajK acM ajL atY ajM ajN ajO acN ajP atZ ajQ ajR ajS acO ajT at3 ajU ajV ajW acP ajX at4 ajY ajZ aj0 acQ aj1 at5 aj2 aj3 aj4 acR aj5 at6 aj6 aj7 aj8 acS aj9 at7 aka akb akc acT akd at8 ake akf akg acU akh go3 aki : Value} {dN1 dN2 dN9 at9 aua gn3 aub : Nat} {aar Xu gt0 gt1 gt2 gt4 gt5 gt6 gt7 gt8 gt9 : Tok} {gi3 acV : Array Value} {acW Xv Uu Qe Qf acX Mt : ClassData}
 (h8j : W.nsIn K mainGlobals "Ask" = some (some (.ref gO)))
 (h8k : W.nsIn K mainGlobals "Both" = some (some (.ref gP)))
 (h8l : W.nsIn K mainGlobals "Check" = some (some (.ref cO)))
 (h8m : W.nsIn K mainGlobals "Compare" = some (some (.ref bM)))
 (h8n : W.nsIn K mainGlobals "Either" = some (some (.ref dm)))
 (h8o : W.nsIn K mainGlobals "Is" = some (some (.ref su)))
 (h8p : W.nsIn K mainGlobals "Kind" = some (some (.ref Cg)))
 (h8q : W.nsIn K mainGlobals "Money" = some (some (.ref fj)))
 (h8r : W.nsIn K mainGlobals "Names" = some (some (.ref gj)))
 (h8s : W.nsIn K mainGlobals "NoKind" = some (some (.ref uP)))
 (h8t : W.nsIn K mainGlobals "NoNumber" = some (some (.ref gQ)))
 (h8u : W.nsIn K mainGlobals "NoSaying" = some (some (.ref oO)))
 (h8v : W.nsIn K mainGlobals "Not" = some (some (.ref lF)))
 (h8w : W.nsIn K mainGlobals "Pair" = some (some (.ref Ij)))
 (h8x : W.nsIn K mainGlobals "Paper" = some (some (.ref ik)))
 (h8y : W.nsIn K mainGlobals "Pick" = some (some (.ref je)))
 (h8z : W.nsIn K mainGlobals "Row" = some (some (.ref sX)))
 (h90 : W.nsIn K mainGlobals "Saying" = some (some (.ref Qd)))
 (h91 : W.nsIn K mainGlobals "Sheet" = some (some (.ref gm)))
 (h92 : W.nsIn K mainGlobals "Whole" = some (some (.ref eG)))
 (h93 : W.nsIn K mainGlobals "WordsLeft" = some (some (.ref aC)))
 (h94 : W.nsIn K mainGlobals "YesNo" = some (some (.ref gn)))
 (h00 : W.findIn K (.ref sX) "__init__" = some (some (.ref f0)))
 (h01 : K.lookup f0 = some ⟨oc0, od0, .func (W.fnOf "__init__" "Row.__init__" (ak bO) (aj bO) (aa bO) .none kV0 dc0 pm0 an0 cd0 ct0), sl0⟩)
 (h02 : W.codeIn K cd0 "Row.__init__" = true)
 (h03 : W.keepIn K (.ref f0) = true)
 (h04 : W.findIn K (.ref gO) "__init__" = some (some (.ref f1)))
 (h05 : K.lookup f1 = some ⟨oc1, od1, .func (W.fnOf "__init__" "Ask.__init__" (ak bA) (aj bA) (aa bA) (.ref dT1) kV1 dc1 pm1 an1 cd1 ct1), sl1⟩)
 (h06 : W.codeIn K cd1 "Ask.__init__" = true)
 (h07 : W.keepIn K (.ref f1) = true)
 (h08 : K.lookup dT1 = some ⟨.type "tuple", dD1, .seq ([.none] : List Value).toArray dN1, dS1⟩)
 (h09 : W.findIn K (.ref cO) "__init__" = some (some (.ref f2)))
 (h0a : K.lookup f2 = some ⟨oc2, od2, .func (W.fnOf "__init__" "Check.__init__" (ak aU) (aj aU) (aa aU) (.ref dT2) kV2 dc2 pm2 an2 cd2 ct2), sl2⟩)
 (h0b : W.codeIn K cd2 "Check.__init__" = true)
 (h0c : W.keepIn K (.ref f2) = true)
 (h0d : K.lookup dT2 = some ⟨.type "tuple", dD2, .seq ([(.bool true)] : List Value).toArray dN2, dS2⟩)
 (h0e : W.findIn K (.ref gm) "__init__" = some (some (.ref f3)))
 (h0f : K.lookup f3 = some ⟨oc3, od3, .func (W.fnOf "__init__" "Sheet.__init__" (ak aX) (aj aX) (aa aX) .none kV3 dc3 pm3 an3 cd3 ct3), sl3⟩)
 (h0g : W.codeIn K cd3 "Sheet.__init__" = true)
 (h0h : W.keepIn K (.ref f3) = true)
 (h0i : W.findIn K (.ref ik) "__init__" = some (some (.ref f4)))
 (h0j : K.lookup f4 = some ⟨oc4, od4, .func (W.fnOf "__init__" "Paper.__init__" (ak aY) (aj aY) (aa aY) .none kV4 dc4 pm4 an4 cd4 ct4), sl4⟩)
 (h0k : W.codeIn K cd4 "Paper.__init__" = true)
 (h0l : W.keepIn K (.ref f4) = true)
 (h0m : W.nsIn K mainGlobals "is_name" = some (some (.ref f5)))
 (h0n : K.lookup f5 = some ⟨oc5, od5, .func (W.fnOf "is_name" "is_name" (ak fZ) (aj fZ) (aa fZ) .none kV5 dc5 pm5 an5 cd5 ct5), sl5⟩)
 (h0o : W.codeIn K cd5 "is_name" = true)
 (h0p : W.keepIn K (.ref f5) = true)
 (h0q : W.nsIn K mainGlobals "are_unlike_names" = some (some (.ref f6)))
 (h0r : K.lookup f6 = some ⟨oc6, od6, .func (W.fnOf "are_unlike_names" "are_unlike_names" (ak aN) (aj aN) (aa aN) .none kV6 dc6 pm6 an6 cd6 ct6), sl6⟩)
 (h0s : W.codeIn K cd6 "are_unlike_names" = true)
 (h0t : W.keepIn K (.ref f6) = true)
 (h0u : W.nsIn K mainGlobals "are_figures" = some (some (.ref f7)))
 (h0v : K.lookup f7 = some ⟨oc7, od7, .func (W.fnOf "are_figures" "are_figures" (ak cF) (aj cF) (aa cF) .none kV7 dc7 pm7 an7 cd7 ct7), sl7⟩)
 (h0w : W.codeIn K cd7 "are_figures" = true)
 (h0x : W.keepIn K (.ref f7) = true)
 (h0y : W.nsIn K mainGlobals "figures_worth" = some (some (.ref f8)))
 (h0z : K.lookup f8 = some ⟨oc8, od8, .func (W.fnOf "figures_worth" "figures_worth" (ak bB) (aj bB) (aa bB) .none kV8 dc8 pm8 an8 cd8 ct8), sl8⟩)
 (h10 : W.codeIn K cd8 "figures_worth" = true)
 (h11 : W.keepIn K (.ref f8) = true)
 (h12 : W.nsIn K mainGlobals "number_of" = some (some (.ref f9)))
 (h13 : K.lookup f9 = some ⟨oc9, od9, .func (W.fnOf "number_of" "number_of" (ak dw) (aj dw) (aa dw) (.ref dT9) kV9 dc9 pm9 an9 cd9 ct9), sl9⟩)
 (h14 : W.codeIn K cd9 "number_of" = true)
 (h15 : W.keepIn K (.ref f9) = true)
 (h16 : K.lookup dT9 = some ⟨.type "tuple", dD9, .seq ([(.int 60 aar)] : List Value).toArray dN9, dS9⟩)
 (h17 : W.nsIn K mainGlobals "number_or_none" = some (some (.ref f10)))
 (h18 : K.lookup f10 = some ⟨asZ, aqD, .func (W.fnOf "number_or_none" "number_or_none" (ak aZ) (aj aZ) (aa aZ) .none agx agy agz afB abV agA), arH⟩)
 (h19 : W.codeIn K abV "number_or_none" = true)
 (h1a : W.keepIn K (.ref f10) = true)
 (h1b : W.nsIn K mainGlobals "money_shown" = some (some (.ref f11)))
 (h1c : K.lookup f11 = some ⟨as3, aqE, .func (W.fnOf "money_shown" "money_shown" (ak cG) (aj cG) (aa cG) .none agB agC agD afC abW agE), arI⟩)
 (h1d : W.codeIn K abW "money_shown" = true)
 (h1e : W.keepIn K (.ref f11) = true)
 (h1f : W.nsIn K mainGlobals "money_or_none" = some (some (.ref f12)))
 (h1g : K.lookup f12 = some ⟨as4, aqF, .func (W.fnOf "money_or_none" "money_or_none" (ak bC) (aj bC) (aa bC) .none agF agG agH afD abX agI), arJ⟩)
 (h1h : W.codeIn K abX "money_or_none" = true)
 (h1i : W.keepIn K (.ref f12) = true)
 (h1j : W.findIn K (.ref Cg) "__init__" = some (some (.ref Zu)))
 (h1k : K.lookup Zu = some ⟨as5, aqG, .func (W.fnOf "__init__" "Kind.__init__" (ak bD) (aj bD) (aa bD) .none agJ agK agL afE abY agM), arK⟩)
 (h1l : W.codeIn K abY "Kind.__init__" = true)
 (h1m : W.keepIn K (.ref Zu) = true)
 (h1n : W.findIn K (.ref gn) "__init__" = some (some (.ref f14)))
 (h1o : K.lookup f14 = some ⟨as6, aqH, .func (W.fnOf "__init__" "YesNo.__init__" (ak bc) (aj bc) (aa bc) .none agN agO agP afF abZ agQ), arL⟩)
 (h1p : W.codeIn K abZ "YesNo.__init__" = true)
 (h1q : W.keepIn K (.ref f14) = true)
 (h1r : W.findIn K (.ref gn) "told" = some (some (.ref f15)))
 (h1s : K.lookup f15 = some ⟨as7, aqI, .func (W.fnOf "told" "YesNo.told" (ak bQ) (aj bQ) (aa bQ) .none agR agS agT afG ab0 agU), arM⟩)
 (h1t : W.codeIn K ab0 "YesNo.told" = true)
 (h1u : W.keepIn K (.ref f15) = true)
 (h1v : W.findIn K (.ref eG) "shown" = some (some (.ref f16)))
 (h1w : K.lookup f16 = some ⟨as8, aqJ, .func (W.fnOf "shown" "Whole.shown" (ak bF) (aj bF) (aa bF) .none agV agW agX afH ab1 agY), arN⟩)
 (h1x : W.codeIn K ab1 "Whole.shown" = true)
 (h1y : W.keepIn K (.ref f16) = true)
 (h1z : W.findIn K (.ref eG) "bounds" = some (some (.ref f17)))
 (h20 : K.lookup f17 = some ⟨as9, aqK, .func (W.fnOf "bounds" "Whole.bounds" (ak bf) (aj bf) (aa bf) .none agZ ag0 ag1 afI ab2 ag2), arO⟩)
 (h21 : W.codeIn K ab2 "Whole.bounds" = true)
 (h22 : W.keepIn K (.ref f17) = true)
 (h23 : W.findIn K (.ref eG) "told" = some (some (.ref f18)))
 (h24 : K.lookup f18 = some ⟨ata, aqL, .func (W.fnOf "told" "Whole.told" (ak bR) (aj bR) (aa bR) .none ag3 ag4 ag5 afJ ab3 ag6), arP⟩)
 (h25 : W.codeIn K ab3 "Whole.told" = true)
 (h26 : W.keepIn K (.ref f18) = true)
 (h27 : W.findIn K (.ref fj) "shown" = some (some (.ref f19)))
 (h28 : K.lookup f19 = some ⟨atb, aqM, .func (W.fnOf "shown" "Money.shown" (ak bG) (aj bG) (aa bG) .none ag7 ag8 ag9 afK ab4 aha), arQ⟩)
 (h29 : W.codeIn K ab4 "Money.shown" = true)
 (h2a : W.keepIn K (.ref f19) = true)
 (h2b : W.findIn K (.ref fj) "told" = some (some (.ref f20)))
 (h2c : K.lookup f20 = some ⟨atc, aqN, .func (W.fnOf "told" "Money.told" (ak bT) (aj bT) (aa bT) .none ahb ahc ahd afL ab5 ahe), arR⟩)
 (h2d : W.codeIn K ab5 "Money.told" = true)
 (h2e : W.keepIn K (.ref f20) = true)
 (h2f : W.findIn K (.ref je) "__init__" = some (some (.ref f21)))
 (h2g : K.lookup f21 = some ⟨atd, aqO, .func (W.fnOf "__init__" "Pick.__init__" (ak bH) (aj bH) (aa bH) .none ahf ahg ahh afM ab6 ahi), arS⟩)
 (h2h : W.codeIn K ab6 "Pick.__init__" = true)
 (h2i : W.keepIn K (.ref f21) = true)
 (h2j : W.findIn K (.ref je) "told" = some (some (.ref f22)))
 (h2k : K.lookup f22 = some ⟨ate, aqP, .func (W.fnOf "told" "Pick.told" (ak cH) (aj cH) (aa cH) .none ahj ahk ahl afN ab7 ahm), arT⟩)
 (h2l : W.codeIn K ab7 "Pick.told" = true)
 (h2m : W.keepIn K (.ref f22) = true)
 (h2n : W.findIn K (.ref gj) "__init__" = some (some (.ref f23)))
 (h2o : K.lookup f23 = some ⟨atf, aqQ, .func (W.fnOf "__init__" "Names.__init__" (ak bh) (aj bh) (aa bh) (.ref abS) ahn aho ahp afO ab8 ahq), arU⟩)
 (h2p : W.codeIn K ab8 "Names.__init__" = true)
 (h2q : W.keepIn K (.ref f23) = true)
 (h2r : K.lookup abS = some ⟨.type "tuple", aqR, .seq ([(.int 3 Xu)] : List Value).toArray at9, arV⟩)
 (h2s : W.findIn K (.ref gj) "told" = some (some (.ref f24)))
 (h2t : K.lookup f24 = some ⟨atg, aqS, .func (W.fnOf "told" "Names.told" (ak bU) (aj bU) (aa bU) .none ahr ahs aht afP ab9 ahu), arW⟩)
 (h2u : W.codeIn K ab9 "Names.told" = true)
 (h2v : W.keepIn K (.ref f24) = true)
 (h2w : W.nsIn K mainGlobals "are_bounds" = some (some (.ref f25)))
 (h2x : K.lookup f25 = some ⟨ath, aqT, .func (W.fnOf "are_bounds" "are_bounds" (ak cX) (aj cX) (aa cX) .none ahv ahw ahx afQ aca ahy), arX⟩)
 (h2y : W.codeIn K aca "are_bounds" = true)
 (h2z : W.keepIn K (.ref f25) = true)
 (h30 : W.nsIn K mainGlobals "whole_or_none" = some (some (.ref f26)))
 (h31 : K.lookup f26 = some ⟨ati, aqU, .func (W.fnOf "whole_or_none" "whole_or_none" (ak bI) (aj bI) (aa bI) .none ahz ahA ahB afR acb ahC), arY⟩)
 (h32 : W.codeIn K acb "whole_or_none" = true)
 (h33 : W.keepIn K (.ref f26) = true)
 (h34 : W.nsIn K mainGlobals "money_kind_or_none" = some (some (.ref f27)))
 (h35 : K.lookup f27 = some ⟨atj, aqV, .func (W.fnOf "money_kind_or_none" "money_kind_or_none" (ak aG) (aj aG) (aa aG) .none ahD ahE ahF afS acd ahG), arZ⟩)
 (h36 : W.codeIn K acd "money_kind_or_none" = true)
 (h37 : W.keepIn K (.ref f27) = true)
 (h38 : W.nsIn K mainGlobals "pick_or_none" = some (some (.ref f28)))
 (h39 : K.lookup f28 = some ⟨atk, aqW, .func (W.fnOf "pick_or_none" "pick_or_none" (ak bV) (aj bV) (aa bV) .none ahH ahI ahJ afT ace ahK), ar0⟩)
 (h3a : W.codeIn K ace "pick_or_none" = true)
 (h3b : W.keepIn K (.ref f28) = true)
 (h3c : W.nsIn K mainGlobals "names_or_none" = some (some (.ref f29)))
 (h3d : K.lookup f29 = some ⟨atl, aqX, .func (W.fnOf "names_or_none" "names_or_none" (ak bJ) (aj bJ) (aa bJ) .none ahL ahM ahN afU acf ahO), ar3⟩)
 (h3e : W.codeIn K acf "names_or_none" = true)
 (h3f : W.keepIn K (.ref f29) = true)
 (h3g : W.nsIn K mainGlobals "kind_or_none" = some (some (.ref f30)))
 (h3h : K.lookup f30 = some ⟨atm, aqY, .func (W.fnOf "kind_or_none" "kind_or_none" (ak bW) (aj bW) (aa bW) .none ahP ahQ ahR afV acg ahS), ar4⟩)
 (h3i : W.codeIn K acg "kind_or_none" = true)
 (h3j : W.keepIn K (.ref f30) = true)
 (h3k : W.nsIn K mainGlobals "kind_of" = some (some (.ref f31)))
 (h3l : K.lookup f31 = some ⟨atn, aqZ, .func (W.fnOf "kind_of" "kind_of" (ak gb) (aj gb) (aa gb) .none ahT ahU ahV afW ach ahW), ar5⟩)
 (h3m : W.codeIn K ach "kind_of" = true)
 (h3n : W.keepIn K (.ref f31) = true)
 (h3o : W.findIn K (.ref su) "__init__" = some (some (.ref WD)))
 (h3p : K.lookup WD = some ⟨ato, aq0, .func (W.fnOf "__init__" "Is.__init__" (ak cI) (aj cI) (aa cI) (.ref abT) ahX ahY ahZ afX aci ah0), ar6⟩)
 (h3q : W.codeIn K aci "Is.__init__" = true)
 (h3r : W.keepIn K (.ref WD) = true)
 (h3s : K.lookup abT = some ⟨.type "tuple", aq1, .seq ([.none] : List Value).toArray aua, ar7⟩)
 (h3t : W.findIn K (.ref su) "shown" = some (some (.ref f33)))
 (h3u : K.lookup f33 = some ⟨atp, aq2, .func (W.fnOf "shown" "Is.shown" (ak cY) (aj cY) (aa cY) .none ah1 ah2 ah3 afY acj ah4), ar8⟩)
 (h3v : W.codeIn K acj "Is.shown" = true)
 (h3w : W.keepIn K (.ref f33) = true)
 (h3x : W.findIn K (.ref su) "atoms" = some (some (.ref f34)))
 (h3y : K.lookup f34 = some ⟨atq, aq3, .func (W.fnOf "atoms" "Is.atoms" (ak cZ) (aj cZ) (aa cZ) .none ah5 ah6 ah7 afZ ack ah8), ar9⟩)
 (h3z : W.codeIn K ack "Is.atoms" = true)
 (h40 : W.keepIn K (.ref f34) = true)
 (h41 : W.findIn K (.ref bM) "__init__" = some (some (.ref f35)))
 (h42 : K.lookup f35 = some ⟨atr, aq4, .func (W.fnOf "__init__" "Compare.__init__" (ak aO) (aj aO) (aa aO) .none ah9 aia aib af0 acn aic), asa⟩)
 (h43 : W.codeIn K acn "Compare.__init__" = true)
 (h44 : W.keepIn K (.ref f35) = true)
 (h45 : W.findIn K (.ref bM) "shown" = some (some (.ref f36)))
 (h46 : K.lookup f36 = some ⟨atu, aq5, .func (W.fnOf "shown" "Compare.shown" (ak aV) (aj aV) (aa aV) .none aid aie aif af1 aco aih), asb⟩)
 (h47 : W.codeIn K aco "Compare.shown" = true)
 (h48 : W.keepIn K (.ref f36) = true)
 (h49 : W.findIn K (.ref bM) "atoms" = some (some (.ref f37)))
 (h4a : K.lookup f37 = some ⟨atv, aq6, .func (W.fnOf "atoms" "Compare.atoms" (ak aW) (aj aW) (aa aW) .none aii aij aik af2 acp ail), asd⟩)
 (h4b : W.codeIn K acp "Compare.atoms" = true)
 (h4c : W.keepIn K (.ref f37) = true)
 (h4d : W.findIn K (.ref lF) "__init__" = some (some (.ref f38)))
 (h4e : K.lookup f38 = some ⟨atw, aq7, .func (W.fnOf "__init__" "Not.__init__" (ak bY) (aj bY) (aa bY) .none aim ain aio af3 acq aip), ase⟩)
 (h4f : W.codeIn K acq "Not.__init__" = true)
 (h4g : W.keepIn K (.ref f38) = true)
 (h4h : W.findIn K (.ref lF) "shown" = some (some (.ref f39)))
 (h4i : K.lookup f39 = some ⟨atx, aq8, .func (W.fnOf "shown" "Not.shown" (ak cJ) (aj cJ) (aa cJ) .none aiq air ais af4 acr ait), asf⟩)
 (h4j : W.codeIn K acr "Not.shown" = true)
 (h4k : W.keepIn K (.ref f39) = true)
 (h4l : W.findIn K (.ref lF) "atoms" = some (some (.ref f40)))
 (h4m : K.lookup f40 = some ⟨aty, aq9, .func (W.fnOf "atoms" "Not.atoms" (ak cL) (aj cL) (aa cL) .none aiu aiv aiw af5 acs aix), ash⟩)
 (h4n : W.codeIn K acs "Not.atoms" = true)
 (h4o : W.keepIn K (.ref f40) = true)
 (h4p : W.findIn K (.ref Ij) "__init__" = some (some (.ref f41)))
 (h4q : K.lookup f41 = some ⟨atz, ara, .func (W.fnOf "__init__" "Pair.__init__" (ak bK) (aj bK) (aa bK) .none aiy aiz aiA af6 acu aiB), asi⟩)
 (h4r : W.codeIn K acu "Pair.__init__" = true)
 (h4s : W.keepIn K (.ref f41) = true)
 (h4t : W.findIn K (.ref Ij) "shown_with" = some (some (.ref f42)))
 (h4u : K.lookup f42 = some ⟨atA, arb, .func (W.fnOf "shown_with" "Pair.shown_with" (ak aK) (aj aK) (aa aK) .none aiC aiD aiE af7 acv aiF), asj⟩)
 (h4v : W.codeIn K acv "Pair.shown_with" = true)
 (h4w : W.keepIn K (.ref f42) = true)
 (h4x : W.findIn K (.ref Ij) "atoms" = some (some (.ref f43)))
 (h4y : K.lookup f43 = some ⟨atB, arc, .func (W.fnOf "atoms" "Pair.atoms" (ak bZ) (aj bZ) (aa bZ) .none aiG aiH aiI af8 acw aiJ), asl⟩)
 (h4z : W.codeIn K acw "Pair.atoms" = true)
 (h50 : W.keepIn K (.ref f43) = true)
 (h51 : W.findIn K (.ref gP) "shown" = some (some (.ref f44)))
 (h52 : K.lookup f44 = some ⟨atD, ard, .func (W.fnOf "shown" "Both.shown" (ak b7) (aj b7) (aa b7) .none aiK aiL aiM af9 acx aiN), asm⟩)
 (h53 : W.codeIn K acx "Both.shown" = true)
 (h54 : W.keepIn K (.ref f44) = true)
 (h55 : W.findIn K (.ref dm) "shown" = some (some (.ref f45)))
 (h56 : K.lookup f45 = some ⟨atE, arf, .func (W.fnOf "shown" "Either.shown" (ak bj) (aj bj) (aa bj) .none aiO aiP aiQ aga acy aiR), asn⟩)
 (h57 : W.codeIn K acy "Either.shown" = true)
 (h58 : W.keepIn K (.ref f45) = true)
 (h59 : W.findIn K (.ref aC) "__init__" = some (some (.ref f46)))
 (h5a : K.lookup f46 = some ⟨atF, arh, .func (W.fnOf "__init__" "WordsLeft.__init__" (ak aH) (aj aH) (aa aH) .none aiS aiT aiU agb acz aiV), aso⟩)
 (h5b : W.codeIn K acz "WordsLeft.__init__" = true)
 (h5c : W.keepIn K (.ref f46) = true)
 (h5d : W.findIn K (.ref aC) "take" = some (some (.ref f47)))
 (h5e : K.lookup f47 = some ⟨atG, ari, .func (W.fnOf "take" "WordsLeft.take" (ak aP) (aj aP) (aa aP) .none aiW aiX aiY agc acA aiZ), asp⟩)
 (h5f : W.codeIn K acA "WordsLeft.take" = true)
 (h5g : W.keepIn K (.ref f47) = true)
 (h5h : W.findIn K (.ref aC) "are_all_taken" = some (some (.ref f48)))
 (h5i : K.lookup f48 = some ⟨atH, arj, .func (W.fnOf "are_all_taken" "WordsLeft.are_all_taken" (ak aA) (aj aA) (aa aA) .none ai0 ai1 ai2 agd acB ai3), asq⟩)
 (h5j : W.codeIn K acB "WordsLeft.are_all_taken" = true)
 (h5k : W.keepIn K (.ref f48) = true)
 (h5l : W.nsIn K mainGlobals "read_atom" = some (some (.ref f49)))
 (h5m : K.lookup f49 = some ⟨atJ, ark, .func (W.fnOf "read_atom" "read_atom" (ak dz) (aj dz) (aa dz) .none ai4 ai5 ai6 age acC ai7), asr⟩)
 (h5n : W.codeIn K acC "read_atom" = true)
 (h5o : W.keepIn K (.ref f49) = true)
 (h5p : W.nsIn K mainGlobals "read_pair" = some (some (.ref f50)))
 (h5q : K.lookup f50 = some ⟨atL, arl, .func (W.fnOf "read_pair" "read_pair" (ak dB) (aj dB) (aa dB) .none ai8 ai9 aja agf acD ajb), ass⟩)
 (h5r : W.codeIn K acD "read_pair" = true)
 (h5s : W.keepIn K (.ref f50) = true)
 (h5t : W.nsIn K mainGlobals "read_next" = some (some (.ref f51)))
 (h5u : K.lookup f51 = some ⟨atM, arn, .func (W.fnOf "read_next" "read_next" (ak dC) (aj dC) (aa dC) .none ajc ajd aje agg acE ajf), asu⟩)
 (h5v : W.codeIn K acE "read_next" = true)
 (h5w : W.keepIn K (.ref f51) = true)
 (h5x : W.nsIn K mainGlobals "read_saying" = some (some (.ref f52)))
 (h5y : K.lookup f52 = some ⟨atN, aro, .func (W.fnOf "read_saying" "read_saying" (ak cM) (aj cM) (aa cM) .none ajg ajh aji agh acF ajj), asv⟩)
 (h5z : W.codeIn K acF "read_saying" = true)
 (h60 : W.keepIn K (.ref f52) = true)
 (h61 : W.nsIn K mainGlobals "_law_cell_at" = some (some (.ref f53)))
 (h62 : K.lookup f53 = some ⟨atO, arp, .func (W.fnOf "_law_cell_at" "_law_cell_at" (ak cN) (aj cN) (aa cN) .none ajk ajl ajm agi acG ajn), asw⟩)
 (h63 : W.codeIn K acG "_law_cell_at" = true)
 (h64 : W.keepIn K (.ref f53) = true)
 (h65 : W.nsIn K mainGlobals "_law_mixed" = some (some (.ref f54)))
 (h66 : K.lookup f54 = some ⟨atP, arq, .func (W.fnOf "_law_mixed" "_law_mixed" (ak dD) (aj dD) (aa dD) .none ajo ajp ajq agj acH ajr), asx⟩)
 (h67 : W.codeIn K acH "_law_mixed" = true)
 (h68 : W.keepIn K (.ref f54) = true)
 (h69 : W.nsIn K mainGlobals "_law_open" = some (some (.ref f55)))
 (h6a : K.lookup f55 = some ⟨atQ, ars, .func (W.fnOf "_law_open" "_law_open" (ak eH) (aj eH) (aa eH) .none ajs ajt aju agk acI ajv), asy⟩)
 (h6b : W.codeIn K acI "_law_open" = true)
 (h6c : W.keepIn K (.ref f55) = true)
 (h6d : W.nsIn K mainGlobals "_law_name" = some (some (.ref f56)))
 (h6e : K.lookup f56 = some ⟨atR, art, .func (W.fnOf "_law_name" "_law_name" (ak eN) (aj eN) (aa eN) .none ajw ajx ajy agl acJ ajz), asz⟩)
 (h6f : W.codeIn K acJ "_law_name" = true)
 (h6g : W.keepIn K (.ref f56) = true)
 (h6h : W.nsIn K mainGlobals "_law_number" = some (some (.ref f57)))
 (h6i : K.lookup f57 = some ⟨atU, aru, .func (W.fnOf "_law_number" "_law_number" (ak dg) (aj dg) (aa dg) .none ajA ajB ajC agm acK ajD), asA⟩)
 (h6j : W.codeIn K acK "_law_number" = true)
 (h6k : W.keepIn K (.ref f57) = true)
 (h6l : W.nsIn K mainGlobals "_law_money" = some (some (.ref f58)))
 (h6m : K.lookup f58 = some ⟨atV, arv, .func (W.fnOf "_law_money" "_law_money" (ak dF) (aj dF) (aa dF) .none ajE ajF ajG agn acL ajH), asB⟩)
 (h6n : W.codeIn K acL "_law_money" = true)
 (h6o : W.keepIn K (.ref f58) = true)
 (h6p : W.nsIn K mainGlobals "_law_picked" = some (some (.ref f59)))
 (h6q : K.lookup f59 = some ⟨atX, arw, .func (W.fnOf "_law_picked" "_law_picked" (ak dh) (aj dh) (aa dh) .none ajI ajJ ajK ago acM ajL), asC⟩)
 (h6r : W.codeIn K acM "_law_picked" = true)
 (h6s : W.keepIn K (.ref f59) = true)
 (h6t : W.nsIn K mainGlobals "_law_kind" = some (some (.ref f60)))
 (h6u : K.lookup f60 = some ⟨atY, arx, .func (W.fnOf "_law_kind" "_law_kind" (ak eO) (aj eO) (aa eO) .none ajM ajN ajO agp acN ajP), asD⟩)
 (h6v : W.codeIn K acN "_law_kind" = true)
 (h6w : W.keepIn K (.ref f60) = true)
 (h6x : W.nsIn K mainGlobals "_law_atom" = some (some (.ref f61)))
 (h6y : K.lookup f61 = some ⟨atZ, arz, .func (W.fnOf "_law_atom" "_law_atom" (ak eQ) (aj eQ) (aa eQ) .none ajQ ajR ajS agq acO ajT), asF⟩)
 (h6z : W.codeIn K acO "_law_atom" = true)
 (h70 : W.keepIn K (.ref f61) = true)
 (h71 : W.nsIn K mainGlobals "_law_saying" = some (some (.ref f62)))
 (h72 : K.lookup f62 = some ⟨at3, arA, .func (W.fnOf "_law_saying" "_law_saying" (ak di) (aj di) (aa di) .none ajU ajV ajW agr acP ajX), asG⟩)
 (h73 : W.codeIn K acP "_law_saying" = true)
 (h74 : W.keepIn K (.ref f62) = true)
 (h75 : W.nsIn K mainGlobals "_law_text" = some (some (.ref f63)))
 (h76 : K.lookup f63 = some ⟨at4, arB, .func (W.fnOf "_law_text" "_law_text" (ak eU) (aj eU) (aa eU) .none ajY ajZ aj0 ags acQ aj1), asH⟩)
 (h77 : W.codeIn K acQ "_law_text" = true)
 (h78 : W.keepIn K (.ref f63) = true)
 (h79 : W.nsIn K mainGlobals "_law_question_fits" = some (some (.ref f64)))
 (h7a : K.lookup f64 = some ⟨at5, arC, .func (W.fnOf "_law_question_fits" "_law_question_fits" (ak aL) (aj aL) (aa aL) .none aj2 aj3 aj4 agt acR aj5), asI⟩)
 (h7b : W.codeIn K acR "_law_question_fits" = true)
 (h7c : W.keepIn K (.ref f64) = true)
 (h7d : W.nsIn K mainGlobals "_law_check_fits" = some (some (.ref f65)))
 (h7e : K.lookup f65 = some ⟨at6, arD, .func (W.fnOf "_law_check_fits" "_law_check_fits" (ak bu) (aj bu) (aa bu) .none aj6 aj7 aj8 agu acS aj9), asJ⟩)
 (h7f : W.codeIn K acS "_law_check_fits" = true)
 (h7g : W.keepIn K (.ref f65) = true)
 (h7h : W.nsIn K mainGlobals "_law_sheet_fits" = some (some (.ref f66)))
 (h7i : K.lookup f66 = some ⟨at7, arE, .func (W.fnOf "_law_sheet_fits" "_law_sheet_fits" (ak bw) (aj bw) (aa bw) .none aka akb akc agv acT akd), asK⟩)
 (h7j : W.codeIn K acT "_law_sheet_fits" = true)
 (h7k : W.keepIn K (.ref f66) = true)
 (h7l : W.nsIn K mainGlobals "law" = some (some (.ref f67)))
 (h7m : K.lookup f67 = some ⟨at8, arF, .func (W.fnOf "law" "law" (ak yt) (aj yt) (aa yt) .none ake akf akg agw acU akh), asL⟩)
 (h7n : W.codeIn K acU "law" = true)
 (h7o : W.keepIn K (.ref f67) = true)
 (h7p : W.nsIn K mainGlobals "DEEPEST" = some (some (.int 8 gt0)))
 (h7q : W.nsIn K mainGlobals "FEWEST_WORDS" = some (some (.int 2 gt1)))
 (h7r : W.nsIn K mainGlobals "FIGURES" = some (some (.str "0123456789" gt2)))
 (h7s : W.nsIn K mainGlobals "HOWS" = some (some (.ref ga3)))
 (h7t : K.lookup ga3 = some ⟨go3, gd3, .seq gi3 gn3, gs3⟩)
 (h7u : go3 = .type "tuple")
 (h7v : gi3.size ≤ sizeLine)
 (h7w : Vals [(.str "<"), (.str "="), (.str ">")] gi3.toList)
 (h7x : W.nsIn K mainGlobals "LETTERS" = some (some (.str "abcdefghijklmnopqrstuvwxyz" gt4)))
 (h7y : W.nsIn K mainGlobals "LONGEST_NAME" = some (some (.int 12 gt5)))
 (h7z : W.nsIn K mainGlobals "MOST_ATOMS" = some (some (.int 16 gt6)))
 (h80 : W.nsIn K mainGlobals "MOST_FIGURES" = some (some (.int 60 gt7)))
 (h81 : W.nsIn K mainGlobals "MOST_NAMES" = some (some (.int 6 gt8)))
 (h82 : W.nsIn K mainGlobals "MOST_WORDS" = some (some (.int 6 gt9)))
 (h83 : W.nsIn K mainGlobals "NO_NAMES" = some (some (.ref abU)))
 (h84 : K.lookup abU = some ⟨aki, arG, .seq acV aub, asM⟩)
 (h85 : aki = .type "tuple")
 (h86 : acV.size ≤ sizeLine)
 (h87 : Vals [(.str "and"), (.str "each"), (.str "end"), (.str "is"), (.str "not"), (.str "or"), (.str "unless"), (.str "when")] acV.toList)
 (h88 : W.nsIn K mainGlobals "abs" = some none)
 (h89 : W.nsIn K mainGlobals "all" = some none)
 (h8a : W.nsIn K mainGlobals "bool" = some none)
 (h8b : W.nsIn K mainGlobals "isinstance" = some none)
 (h8c : W.nsIn K mainGlobals "len" = some none)
 (h8d : W.nsIn K mainGlobals "list" = some none)
 (h8e : W.nsIn K mainGlobals "range" = some none)
 (h8f : W.nsIn K mainGlobals "set" = some none)
 (h8g : W.nsIn K mainGlobals "str" = some none)
 (h8h : W.nsIn K mainGlobals "tuple" = some none)
 (h8i : W.nsIn K mainGlobals "zip" = some none)
 (h95 : W.clsIn K gO = some acW)
 (h96 : W.typeIn K (.ref gO) = some (.type "type"))
 (h97 : W.clsIn K cO = some Xv)
 (h98 : W.typeIn K (.ref cO) = some (.type "type"))
 (h99 : W.clsIn K uP = some Uu)
 (h9a : W.typeIn K (.ref uP) = some (.type "type"))
 (h9b : W.clsIn K gQ = some Qe)
 (h9c : W.typeIn K (.ref gQ) = some (.type "type"))
 (h9d : W.clsIn K oO = some Qf)
 (h9e : W.typeIn K (.ref oO) = some (.type "type"))
 (h9f : W.clsIn K sX = some acX)
 (h9g : W.typeIn K (.ref sX) = some (.type "type"))
 (h9h : W.clsIn K aC = some Mt)
 (h9i : W.typeIn K (.ref aC) = some (.type "type"))
 (h9j : W.excIn K uP Gd "ValueError.__new__" = true)
 (h9k : W.excIn K gQ Gd "ValueError.__new__" = true)
 (h9l : W.excIn K oO Gd "ValueError.__new__" = true)
 (h9m : W.subIn K (.ref gQ) (.type "BaseException") = some true)
 (h9n : W.mroIn K gQ (.ref gQ) = some true)
 (h9o : W.mroIn K su (.ref aC) = some false)
 (h9p : (Value.ref su == Value.ref aC) = false)
 (h9q : W.mroIn K bM (.ref aC) = some false)
 (h9r : (Value.ref bM == Value.ref aC) = false)
 (h9s : W.mroIn K lF (.ref aC) = some false)
 (h9t : (Value.ref lF == Value.ref aC) = false)
 (h9u : W.mroIn K gP (.ref aC) = some false)
 (h9v : (Value.ref gP == Value.ref aC) = false)
 (h9w : W.mroIn K dm (.ref aC) = some false)
 (h9x : (Value.ref dm == Value.ref aC) = false)
 (h9y : W.mroIn K cO (.ref gO) = some false)
 (h9z : (Value.ref cO == Value.ref gO) = false)
 (ha0 : W.mroIn K cO (.ref sX) = some true)
 (ha1 : (Value.ref cO == Value.ref sX) = false)
 (ha2 : W.mroIn K gO (.ref cO) = some false)
 (ha3 : (Value.ref gO == Value.ref cO) = false)
 (ha4 : W.mroIn K gO (.ref sX) = some true)
 (ha5 : (Value.ref gO == Value.ref sX) = false)
 (ha6 : W.plainGet K su Str.empty = true)
 (ha7 : W.hasDictIn K su = true)
 (ha8 : W.plainOver K su = true)
 (ha9 : W.findIn K (.ref su) "__setattr__" = some (some (.builtin "object.__setattr__")))
 (haa : W.makesIn K su = true)
 (hab : W.findIn K (.ref su) "__init__" = some (some (.ref WD)))
 (hac : W.isFn K (.ref WD) = true)
 (had : W.keepIn K (.ref su) = true)
 (hae : W.findIn K (.ref su) "shown" = some (some (.ref f33)))
 (haf : W.isFn K (.ref f33) = true)
 (hag : W.findIn K (.ref su) "atoms" = some (some (.ref f34)))
 (hah : W.isFn K (.ref f34) = true)
 (hai : W.findIn K (.ref su) "name" = some none)
 (haj : W.findIn K (.ref su) "word" = some none)
 (hak : W.findIn K (.ref su) "place" = some none)
 (hal : W.plainGet K bM Str.empty = true)
 (ham : W.hasDictIn K bM = true)
 (han : W.plainOver K bM = true)
 (hao : W.findIn K (.ref bM) "__setattr__" = some (some (.builtin "object.__setattr__")))
 (hap : W.makesIn K bM = true)
 (haq : W.findIn K (.ref bM) "__init__" = some (some (.ref f35)))
 (har : W.isFn K (.ref f35) = true)
 (has : W.keepIn K (.ref bM) = true)
 (hat : W.findIn K (.ref bM) "shown" = some (some (.ref f36)))
 (hau : W.isFn K (.ref f36) = true)
 (hav : W.findIn K (.ref bM) "atoms" = some (some (.ref f37)))
 (haw : W.isFn K (.ref f37) = true)
 (hax : W.findIn K (.ref bM) "name" = some none)
 (hay : W.findIn K (.ref bM) "how" = some none)
 (haz : W.findIn K (.ref bM) "number" = some none)
 (hb0 : W.plainGet K lF Str.empty = true)
 (hb1 : W.hasDictIn K lF = true)
 (hb2 : W.plainOver K lF = true)
 (hb3 : W.findIn K (.ref lF) "__setattr__" = some (some (.builtin "object.__setattr__")))
 (hb4 : W.makesIn K lF = true)
 (hb5 : W.findIn K (.ref lF) "__init__" = some (some (.ref f38)))
 (hb6 : W.isFn K (.ref f38) = true)
 (hb7 : W.keepIn K (.ref lF) = true)
 (hb8 : W.findIn K (.ref lF) "shown" = some (some (.ref f39)))
 (hb9 : W.isFn K (.ref f39) = true)
 (hba : W.findIn K (.ref lF) "atoms" = some (some (.ref f40)))
 (hbb : W.isFn K (.ref f40) = true)
 (hbc : W.findIn K (.ref lF) "test" = some none)
 (hbd : W.plainGet K gP Str.empty = true)
 (hbe : W.hasDictIn K gP = true)
 (hbf : W.plainOver K gP = true)
 (hbg : W.findIn K (.ref gP) "__setattr__" = some (some (.builtin "object.__setattr__")))
 (hbh : W.makesIn K gP = true)
 (hbi : W.findIn K (.ref gP) "__init__" = some (some (.ref f41)))
 (hbj : W.isFn K (.ref f41) = true)
 (hbk : W.keepIn K (.ref gP) = true)
 (hbl : W.findIn K (.ref gP) "shown" = some (some (.ref f44)))
 (hbm : W.isFn K (.ref f44) = true)
 (hbn : W.findIn K (.ref gP) "atoms" = some (some (.ref f43)))
 (hbo : W.isFn K (.ref f43) = true)
 (hbp : W.findIn K (.ref gP) "shown_with" = some (some (.ref f42)))
 (hbq : W.isFn K (.ref f42) = true)
 (hbr : W.findIn K (.ref gP) "one" = some none)
 (hbs : W.findIn K (.ref gP) "other" = some none)
 (hbt : W.plainGet K dm Str.empty = true)
 (hbu : W.hasDictIn K dm = true)
 (hbv : W.plainOver K dm = true)
 (hbw : W.findIn K (.ref dm) "__setattr__" = some (some (.builtin "object.__setattr__")))
 (hbx : W.makesIn K dm = true)
 (hby : W.findIn K (.ref dm) "__init__" = some (some (.ref f41)))
 (hbz : W.isFn K (.ref f41) = true)
 (hc0 : W.keepIn K (.ref dm) = true)
 (hc1 : W.findIn K (.ref dm) "shown" = some (some (.ref f45)))
 (hc2 : W.isFn K (.ref f45) = true)
 (hc3 : W.findIn K (.ref dm) "atoms" = some (some (.ref f43)))
 (hc4 : W.isFn K (.ref f43) = true)
 (hc5 : W.findIn K (.ref dm) "shown_with" = some (some (.ref f42)))
 (hc6 : W.isFn K (.ref f42) = true)
 (hc7 : W.findIn K (.ref dm) "one" = some none)
 (hc8 : W.findIn K (.ref dm) "other" = some none)
 (hc9 : W.plainGet K aC Str.empty = true)
 (hca : W.hasDictIn K aC = true)
 (hcb : W.plainOver K aC = true)
 (hcc : W.findIn K (.ref aC) "__setattr__" = some (some (.builtin "object.__setattr__")))
 (hcd : W.makesIn K aC = true)
 (hce : W.findIn K (.ref aC) "__init__" = some (some (.ref f46)))
 (hcf : W.isFn K (.ref f46) = true)
 (hcg : W.keepIn K (.ref aC) = true)
 (hch : W.findIn K (.ref aC) "take" = some (some (.ref f47)))
 (hci : W.isFn K (.ref f47) = true)
 (hcj : W.findIn K (.ref aC) "are_all_taken" = some (some (.ref f48)))
 (hck : W.isFn K (.ref f48) = true)
 (hcl : W.findIn K (.ref aC) "words" = some none)
 (hcm : W.findIn K (.ref aC) "taken" = some none)
 (hcn : W.plainGet K gn Str.empty = true)
 (hco : W.hasDictIn K gn = true)
 (hcp : W.plainOver K gn = true)
 (hcq : W.findIn K (.ref gn) "__setattr__" = some (some (.builtin "object.__setattr__")))
 (hcr : W.makesIn K gn = true)
 (hcs : W.findIn K (.ref gn) "__init__" = some (some (.ref f14)))
 (hct : W.isFn K (.ref f14) = true)
 (hcu : W.keepIn K (.ref gn) = true)
 (hcv : W.findIn K (.ref gn) "told" = some (some (.ref f15)))
 (hcw : W.isFn K (.ref f15) = true)
 (hcx : W.findIn K (.ref gn) "low" = some none)
 (hcy : W.findIn K (.ref gn) "high" = some none)
 (hcz : W.plainGet K eG Str.empty = true)
 (hd0 : W.hasDictIn K eG = true)
 (hd1 : W.plainOver K eG = true)
 (hd2 : W.findIn K (.ref eG) "__setattr__" = some (some (.builtin "object.__setattr__")))
 (hd3 : W.makesIn K eG = true)
 (hd4 : W.findIn K (.ref eG) "__init__" = some (some (.ref Zu)))
 (hd5 : W.isFn K (.ref Zu) = true)
 (hd6 : W.keepIn K (.ref eG) = true)
 (hd7 : W.findIn K (.ref eG) "shown" = some (some (.ref f16)))
 (hd8 : W.isFn K (.ref f16) = true)
 (hd9 : W.findIn K (.ref eG) "told" = some (some (.ref f18)))
 (hda : W.isFn K (.ref f18) = true)
 (hdb : W.findIn K (.ref eG) "bounds" = some (some (.ref f17)))
 (hdc : W.isFn K (.ref f17) = true)
 (hdd : W.findIn K (.ref eG) "low" = some none)
 (hde : W.findIn K (.ref eG) "high" = some none)
 (hdf : W.plainGet K fj Str.empty = true)
 (hdg : W.hasDictIn K fj = true)
 (hdh : W.plainOver K fj = true)
 (hdi : W.findIn K (.ref fj) "__setattr__" = some (some (.builtin "object.__setattr__")))
 (hdj : W.makesIn K fj = true)
 (hdk : W.findIn K (.ref fj) "__init__" = some (some (.ref Zu)))
 (hdl : W.isFn K (.ref Zu) = true)
 (hdm : W.keepIn K (.ref fj) = true)
 (hdn : W.findIn K (.ref fj) "shown" = some (some (.ref f19)))
 (hdo : W.isFn K (.ref f19) = true)
 (hdp : W.findIn K (.ref fj) "told" = some (some (.ref f20)))
 (hdq : W.isFn K (.ref f20) = true)
 (hdr : W.findIn K (.ref fj) "bounds" = some (some (.ref f17)))
 (hds : W.isFn K (.ref f17) = true)
 (hdt : W.findIn K (.ref fj) "low" = some none)
 (hdu : W.findIn K (.ref fj) "high" = some none)
 (hdv : W.plainGet K je Str.empty = true)
 (hdw : W.hasDictIn K je = true)
 (hdx : W.plainOver K je = true)
 (hdy : W.findIn K (.ref je) "__setattr__" = some (some (.builtin "object.__setattr__")))
 (hdz : W.makesIn K je = true)
 (he0 : W.findIn K (.ref je) "__init__" = some (some (.ref f21)))
 (he1 : W.isFn K (.ref f21) = true)
 (he2 : W.keepIn K (.ref je) = true)
 (he3 : W.findIn K (.ref je) "told" = some (some (.ref f22)))
 (he4 : W.isFn K (.ref f22) = true)
 (he5 : W.findIn K (.ref je) "low" = some none)
 (he6 : W.findIn K (.ref je) "high" = some none)
 (he7 : W.findIn K (.ref je) "words" = some none)
 (he8 : W.plainGet K gj Str.empty = true)
 (he9 : W.hasDictIn K gj = true)
 (hea : W.plainOver K gj = true)
 (heb : W.findIn K (.ref gj) "__setattr__" = some (some (.builtin "object.__setattr__")))
 (hec : W.makesIn K gj = true)
 (hed : W.findIn K (.ref gj) "__init__" = some (some (.ref f23)))
 (hee : W.isFn K (.ref f23) = true)
 (hef : W.keepIn K (.ref gj) = true)
 (heg : W.findIn K (.ref gj) "told" = some (some (.ref f24)))
 (heh : W.isFn K (.ref f24) = true)
 (hei : W.findIn K (.ref gj) "low" = some none)
 (hej : W.findIn K (.ref gj) "high" = some none)
 (hek : W.plainGet K gO Str.empty = true)
 (hel : W.hasDictIn K gO = true)
 (hem : W.plainOver K gO = true)
 (hen : W.findIn K (.ref gO) "__setattr__" = some (some (.builtin "object.__setattr__")))
 (heo : W.findIn K (.ref gO) "__class__" = some (some (.builtin "object.__class__")))
 (hep : W.specialIn K (.builtin "object.__class__") "__get__" = some (some (.builtin "getset_descriptor.__get__")))
 (heq : W.takesIn K (.builtin "object.__class__") = some true)
 (her : W.mroIn K gO (.type "object") = some true)
 (hes : W.makesIn K gO = true)
 (het : W.findIn K (.ref gO) "__init__" = some (some (.ref f1)))
 (heu : W.isFn K (.ref f1) = true)
 (hev : W.keepIn K (.ref gO) = true)
 (hew : W.findIn K (.ref gO) "name" = some none)
 (hex : W.findIn K (.ref gO) "kind" = some none)
 (hey : W.findIn K (.ref gO) "when" = some none)
 (hez : W.plainGet K cO Str.empty = true)
 (hf0 : W.hasDictIn K cO = true)
 (hf1 : W.plainOver K cO = true)
 (hf2 : W.findIn K (.ref cO) "__setattr__" = some (some (.builtin "object.__setattr__")))
 (hf3 : W.findIn K (.ref cO) "__class__" = some (some (.builtin "object.__class__")))
 (hf4 : W.specialIn K (.builtin "object.__class__") "__get__" = some (some (.builtin "getset_descriptor.__get__")))
 (hf5 : W.takesIn K (.builtin "object.__class__") = some true)
 (hf6 : W.mroIn K cO (.type "object") = some true)
 (hf7 : W.makesIn K cO = true)
 (hf8 : W.findIn K (.ref cO) "__init__" = some (some (.ref f2)))
 (hf9 : W.isFn K (.ref f2) = true)
 (hfa : W.keepIn K (.ref cO) = true)
 (hfb : W.findIn K (.ref cO) "name" = some none)
 (hfc : W.findIn K (.ref cO) "test" = some none)
 (hfd : W.findIn K (.ref cO) "firm" = some none)
 (hfe : W.plainGet K gm Str.empty = true)
 (hff : W.hasDictIn K gm = true)
 (hfg : W.plainOver K gm = true)
 (hfh : W.findIn K (.ref gm) "__setattr__" = some (some (.builtin "object.__setattr__")))
 (hfi : W.makesIn K gm = true)
 (hfj : W.findIn K (.ref gm) "__init__" = some (some (.ref f3)))
 (hfk : W.isFn K (.ref f3) = true)
 (hfl : W.keepIn K (.ref gm) = true)
 (hfm : W.findIn K (.ref gm) "name" = some none)
 (hfn : W.findIn K (.ref gm) "each" = some none)
 (hfo : W.findIn K (.ref gm) "rows" = some none)
 (hfp : W.findIn K (.ref gm) "ways" = some none)
 (hfq : W.plainGet K ik Str.empty = true)
 (hfr : W.hasDictIn K ik = true)
 (hfs : W.plainOver K ik = true)
 (hft : W.findIn K (.ref ik) "__setattr__" = some (some (.builtin "object.__setattr__")))
 (hfu : W.makesIn K ik = true)
 (hfv : W.findIn K (.ref ik) "__init__" = some (some (.ref f4)))
 (hfw : W.isFn K (.ref f4) = true)
 (hfx : W.keepIn K (.ref ik) = true)
 (hfy : W.findIn K (.ref ik) "name" = some none)
 (hfz : W.findIn K (.ref ik) "sheets" = some none)
 (hg0 : W.findIn K (.ref ik) "totals" = some none)
 (hg1 : W.readsIn K Cg (.type "type") = true)
 (hg2 : W.findCls K (.ref Cg) (.type "type") "__init__" = some (.val (.ref Zu)))
 (hg3 : W.specialIn K (.ref Cg) "__getattribute__" = some (some (.builtin "type.__getattribute__")))
 (hg4 : W.readsIn K sX (.type "type") = true)
 (hg5 : W.findCls K (.ref sX) (.type "type") "__init__" = some (.val (.ref f0)))
 (hg6 : W.specialIn K (.ref sX) "__getattribute__" = some (some (.builtin "type.__getattribute__"))) :
 ∃ A : dW, Txt K mg A :=
 ⟨⟨f0,
   W.fnOf "__init__" "Row.__init__" (ak bO) (aj bO) (aa bO) .none kV0 dc0 pm0 an0 cd0 ct0,
   f1,
   W.fnOf "__init__" "Ask.__init__" (ak bA) (aj bA) (aa bA) (.ref dT1) kV1 dc1 pm1 an1 cd1 ct1,
   [.none],
   f2,
   W.fnOf "__init__" "Check.__init__" (ak aU) (aj aU) (aa aU) (.ref dT2) kV2 dc2 pm2 an2 cd2 ct2,
   [(.bool true)],
   f3,
   W.fnOf "__init__" "Sheet.__init__" (ak aX) (aj aX) (aa aX) .none kV3 dc3 pm3 an3 cd3 ct3,
   f4,
   W.fnOf "__init__" "Paper.__init__" (ak aY) (aj aY) (aa aY) .none kV4 dc4 pm4 an4 cd4 ct4,
   f5,
   W.fnOf "is_name" "is_name" (ak fZ) (aj fZ) (aa fZ) .none kV5 dc5 pm5 an5 cd5 ct5,
   f6,
   W.fnOf "are_unlike_names" "are_unlike_names" (ak aN) (aj aN) (aa aN) .none kV6 dc6 pm6 an6 cd6 ct6,
   f7,
   W.fnOf "are_figures" "are_figures" (ak cF) (aj cF) (aa cF) .none kV7 dc7 pm7 an7 cd7 ct7,
   f8,
   W.fnOf "figures_worth" "figures_worth" (ak bB) (aj bB) (aa bB) .none kV8 dc8 pm8 an8 cd8 ct8,
   f9,
   W.fnOf "number_of" "number_of" (ak dw) (aj dw) (aa dw) (.ref dT9) kV9 dc9 pm9 an9 cd9 ct9,
   [(.int 60 aar)],
   f10,
   W.fnOf "number_or_none" "number_or_none" (ak aZ) (aj aZ) (aa aZ) .none agx agy agz afB abV agA,
   f11,
   W.fnOf "money_shown" "money_shown" (ak cG) (aj cG) (aa cG) .none agB agC agD afC abW agE,
   f12,
   W.fnOf "money_or_none" "money_or_none" (ak bC) (aj bC) (aa bC) .none agF agG agH afD abX agI,
   Zu,
   W.fnOf "__init__" "Kind.__init__" (ak bD) (aj bD) (aa bD) .none agJ agK agL afE abY agM,
   f14,
   W.fnOf "__init__" "YesNo.__init__" (ak bc) (aj bc) (aa bc) .none agN agO agP afF abZ agQ,
   f15,
   W.fnOf "told" "YesNo.told" (ak bQ) (aj bQ) (aa bQ) .none agR agS agT afG ab0 agU,
   f16,
   W.fnOf "shown" "Whole.shown" (ak bF) (aj bF) (aa bF) .none agV agW agX afH ab1 agY,
   f17,
   W.fnOf "bounds" "Whole.bounds" (ak bf) (aj bf) (aa bf) .none agZ ag0 ag1 afI ab2 ag2,
   f18,
   W.fnOf "told" "Whole.told" (ak bR) (aj bR) (aa bR) .none ag3 ag4 ag5 afJ ab3 ag6,
   f19,
   W.fnOf "shown" "Money.shown" (ak bG) (aj bG) (aa bG) .none ag7 ag8 ag9 afK ab4 aha,
   f20,
   W.fnOf "told" "Money.told" (ak bT) (aj bT) (aa bT) .none ahb ahc ahd afL ab5 ahe,
   f21,
   W.fnOf "__init__" "Pick.__init__" (ak bH) (aj bH) (aa bH) .none ahf ahg ahh afM ab6 ahi,
   f22,
   W.fnOf "told" "Pick.told" (ak cH) (aj cH) (aa cH) .none ahj ahk ahl afN ab7 ahm,
   f23,
   W.fnOf "__init__" "Names.__init__" (ak bh) (aj bh) (aa bh) (.ref abS) ahn aho ahp afO ab8 ahq,
   [(.int 3 Xu)],
   f24,
   W.fnOf "told" "Names.told" (ak bU) (aj bU) (aa bU) .none ahr ahs aht afP ab9 ahu,
   f25,
   W.fnOf "are_bounds" "are_bounds" (ak cX) (aj cX) (aa cX) .none ahv ahw ahx afQ aca ahy,
   f26,
   W.fnOf "whole_or_none" "whole_or_none" (ak bI) (aj bI) (aa bI) .none ahz ahA ahB afR acb ahC,
   f27,
   W.fnOf "money_kind_or_none" "money_kind_or_none" (ak aG) (aj aG) (aa aG) .none ahD ahE ahF afS acd ahG,
   f28,
   W.fnOf "pick_or_none" "pick_or_none" (ak bV) (aj bV) (aa bV) .none ahH ahI ahJ afT ace ahK,
   f29,
   W.fnOf "names_or_none" "names_or_none" (ak bJ) (aj bJ) (aa bJ) .none ahL ahM ahN afU acf ahO,
   f30,
   W.fnOf "kind_or_none" "kind_or_none" (ak bW) (aj bW) (aa bW) .none ahP ahQ ahR afV acg ahS,
   f31,
   W.fnOf "kind_of" "kind_of" (ak gb) (aj gb) (aa gb) .none ahT ahU ahV afW ach ahW,
   WD,
   W.fnOf "__init__" "Is.__init__" (ak cI) (aj cI) (aa cI) (.ref abT) ahX ahY ahZ afX aci ah0,
   [.none],
   f33,
   W.fnOf "shown" "Is.shown" (ak cY) (aj cY) (aa cY) .none ah1 ah2 ah3 afY acj ah4,
   f34,
   W.fnOf "atoms" "Is.atoms" (ak cZ) (aj cZ) (aa cZ) .none ah5 ah6 ah7 afZ ack ah8,
   f35,
   W.fnOf "__init__" "Compare.__init__" (ak aO) (aj aO) (aa aO) .none ah9 aia aib af0 acn aic,
   f36,
   W.fnOf "shown" "Compare.shown" (ak aV) (aj aV) (aa aV) .none aid aie aif af1 aco aih,
   f37,
   W.fnOf "atoms" "Compare.atoms" (ak aW) (aj aW) (aa aW) .none aii aij aik af2 acp ail,
   f38,
   W.fnOf "__init__" "Not.__init__" (ak bY) (aj bY) (aa bY) .none aim ain aio af3 acq aip,
   f39,
   W.fnOf "shown" "Not.shown" (ak cJ) (aj cJ) (aa cJ) .none aiq air ais af4 acr ait,
   f40,
   W.fnOf "atoms" "Not.atoms" (ak cL) (aj cL) (aa cL) .none aiu aiv aiw af5 acs aix,
   f41,
   W.fnOf "__init__" "Pair.__init__" (ak bK) (aj bK) (aa bK) .none aiy aiz aiA af6 acu aiB,
   f42,
   W.fnOf "shown_with" "Pair.shown_with" (ak aK) (aj aK) (aa aK) .none aiC aiD aiE af7 acv aiF,
   f43,
   W.fnOf "atoms" "Pair.atoms" (ak bZ) (aj bZ) (aa bZ) .none aiG aiH aiI af8 acw aiJ,
   f44,
   W.fnOf "shown" "Both.shown" (ak b7) (aj b7) (aa b7) .none aiK aiL aiM af9 acx aiN,
   f45,
   W.fnOf "shown" "Either.shown" (ak bj) (aj bj) (aa bj) .none aiO aiP aiQ aga acy aiR,
   f46,
   W.fnOf "__init__" "WordsLeft.__init__" (ak aH) (aj aH) (aa aH) .none aiS aiT aiU agb acz aiV,
   f47,
   W.fnOf "take" "WordsLeft.take" (ak aP) (aj aP) (aa aP) .none aiW aiX aiY agc acA aiZ,
   f48,
   W.fnOf "are_all_taken" "WordsLeft.are_all_taken" (ak aA) (aj aA) (aa aA) .none ai0 ai1 ai2 agd acB ai3,
   f49,
   W.fnOf "read_atom" "read_atom" (ak dz) (aj dz) (aa dz) .none ai4 ai5 ai6 age acC ai7,
   f50,
   W.fnOf "read_pair" "read_pair" (ak dB) (aj dB) (aa dB) .none ai8 ai9 aja agf acD ajb,
   f51,
   W.fnOf "read_next" "read_next" (ak dC) (aj dC) (aa dC) .none ajc ajd aje agg acE ajf,
   f52,
   W.fnOf "read_saying" "read_saying" (ak cM) (aj cM) (aa cM) .none ajg ajh aji agh acF ajj,
   f53,
   W.fnOf "_law_cell_at" "_law_cell_at" (ak cN) (aj cN) (aa cN) .none ajk ajl ajm agi acG ajn,
   f54,
   W.fnOf "_law_mixed" "_law_mixed" (ak dD) (aj dD) (aa dD) .none ajo ajp ajq agj acH ajr,
   f55,
   W.fnOf "_law_open" "_law_open" (ak eH) (aj eH) (aa eH) .none ajs ajt aju agk acI ajv,
   f56,
   W.fnOf "_law_name" "_law_name" (ak eN) (aj eN) (aa eN) .none ajw ajx ajy agl acJ ajz,
   f57,
   W.fnOf "_law_number" "_law_number" (ak dg) (aj dg) (aa dg) .none ajA ajB ajC agm acK ajD,
   f58,
   W.fnOf "_law_money" "_law_money" (ak dF) (aj dF) (aa dF) .none ajE ajF ajG agn acL ajH,
   f59,
   W.fnOf "_law_picked" "_law_picked" (ak dh) (aj dh) (aa dh) .none ajI ajJ ajK ago acM ajL,
   f60,
   W.fnOf "_law_kind" "_law_kind" (ak eO) (aj eO) (aa eO) .none ajM ajN ajO agp acN ajP,
   f61,
   W.fnOf "_law_atom" "_law_atom" (ak eQ) (aj eQ) (aa eQ) .none ajQ ajR ajS agq acO ajT,
   f62,
   W.fnOf "_law_saying" "_law_saying" (ak di) (aj di) (aa di) .none ajU ajV ajW agr acP ajX,
   f63,
   W.fnOf "_law_text" "_law_text" (ak eU) (aj eU) (aa eU) .none ajY ajZ aj0 ags acQ aj1,
   f64,
   W.fnOf "_law_question_fits" "_law_question_fits" (ak aL) (aj aL) (aa aL) .none aj2 aj3 aj4 agt acR aj5,
   f65,
   W.fnOf "_law_check_fits" "_law_check_fits" (ak bu) (aj bu) (aa bu) .none aj6 aj7 aj8 agu acS aj9,
   f66,
   W.fnOf "_law_sheet_fits" "_law_sheet_fits" (ak bw) (aj bw) (aa bw) .none aka akb akc agv acT akd,
   f67,
   W.fnOf "law" "law" (ak yt) (aj yt) (aa yt) .none ake akf akg agw acU akh,
   ga3,
   abU,
   gO,
   gP,
   cO,
   bM,
   dm,
   su,
   Cg,
   fj,
   gj,
   uP,
   gQ,
   oO,
   lF,
   Ij,
   ik,
   je,
   sX,
   Qd,
   gm,
   eG,
   aC,
   gn⟩, ⟨ao (st := bO) h01 h02 h03,
   (ao (st := bO) h01 h02 h03).binds (ps := ["self", "name"]) ‹2›,
   (xP (st := bA) h05 h06 h07 h08),
   (xP (st := bA) h05 h06 h07 h08).binds (es := []) (fun T _ _ _ _ _ _ us M A E Q s to n ht hc hd hl hq => match us, hl with | [_, _, _, _], _ => BindsTo.of_defaults rfl ht hd rfl rfl M A E Q hq),
   (xP (st := bA) h05 h06 h07 h08).binds (fun T _ _ _ _ _ _ us M A E Q s to n ht hc hd hl hq => match us, Fd (m := 3) hl rfl with | [_, _, _], _ => BindsTo.of_defaults rfl ht hd rfl rfl M A E Q hq),
   .cons rfl (.nil),
   (xP (st := aU) h0a h0b h0c h0d),
   (xP (st := aU) h0a h0b h0c h0d).binds (es := []) (fun T _ _ _ _ _ _ us M A E Q s to n ht hc hd hl hq => match us, hl with | [_, _, _, _], _ => BindsTo.of_defaults rfl ht hd rfl rfl M A E Q hq),
   (xP (st := aU) h0a h0b h0c h0d).binds (fun T _ _ _ _ _ _ us M A E Q s to n ht hc hd hl hq => match us, Fd (m := 3) hl rfl with | [_, _, _], _ => BindsTo.of_defaults rfl ht hd rfl rfl M A E Q hq),
   .cons rfl (.nil),
   ao (st := aX) h0f h0g h0h,
   (ao (st := aX) h0f h0g h0h).binds (ps := ["self", "name", "each", "rows", "ways"]) ‹5›,
   ao (st := aY) h0j h0k h0l,
   (ao (st := aY) h0j h0k h0l).binds (ps := ["self", "name", "sheets", "totals"]) ‹4›,
   ao (st := fZ) h0n h0o h0p,
   (ao (st := fZ) h0n h0o h0p).binds (ps := ["thing"]) ‹1›,
   h0p,
   W.mg_of X G h0m,
   ao (st := aN) h0r h0s h0t,
   (ao (st := aN) h0r h0s h0t).binds (ps := ["words"]) ‹1›,
   h0t,
   W.mg_of X G h0q,
   ao (st := cF) h0v h0w h0x,
   (ao (st := cF) h0v h0w h0x).binds (ps := ["text"]) ‹1›,
   h0x,
   W.mg_of X G h0u,
   ao (st := bB) h0z h10 h11,
   (ao (st := bB) h0z h10 h11).binds (ps := ["figures"]) ‹1›,
   h11,
   W.mg_of X G h0y,
   (xP (st := dw) h13 h14 h15 h16),
   (xP (st := dw) h13 h14 h15 h16).binds (fun T _ _ _ _ _ _ us M A E Q s to n ht hc hd hl hq => match us, Fd (m := 1) hl rfl with | [_], _ => BindsTo.of_defaults rfl ht hd rfl rfl M A E Q hq),
   .cons ⟨_, rfl⟩ (.nil),
   h15,
   W.mg_of X G h12,
   ao (st := aZ) h18 h19 h1a,
   (ao (st := aZ) h18 h19 h1a).binds (ps := ["text"]) ‹1›,
   h1a,
   W.mg_of X G h17,
   ao (st := cG) h1c h1d h1e,
   (ao (st := cG) h1c h1d h1e).binds (ps := ["hundredths"]) ‹1›,
   h1e,
   W.mg_of X G h1b,
   ao (st := bC) h1g h1h h1i,
   (ao (st := bC) h1g h1h h1i).binds (ps := ["text"]) ‹1›,
   h1i,
   W.mg_of X G h1f,
   ao (st := bD) h1k h1l h1m,
   (ao (st := bD) h1k h1l h1m).binds (ps := ["self", "low", "high"]) ‹3›,
   ao (st := bc) h1o h1p h1q,
   (ao (st := bc) h1o h1p h1q).binds (ps := ["self"]) ‹1›,
   ao (st := bQ) h1s h1t h1u,
   (ao (st := bQ) h1s h1t h1u).binds (ps := ["self"]) ‹1›,
   ao (st := bF) h1w h1x h1y,
   (ao (st := bF) h1w h1x h1y).binds (ps := ["self", "answer"]) ‹2›,
   ao (st := bf) h20 h21 h22,
   (ao (st := bf) h20 h21 h22).binds (ps := ["self"]) ‹1›,
   ao (st := bR) h24 h25 h26,
   (ao (st := bR) h24 h25 h26).binds (ps := ["self"]) ‹1›,
   ao (st := bG) h28 h29 h2a,
   (ao (st := bG) h28 h29 h2a).binds (ps := ["self", "answer"]) ‹2›,
   ao (st := bT) h2c h2d h2e,
   (ao (st := bT) h2c h2d h2e).binds (ps := ["self"]) ‹1›,
   ao (st := bH) h2g h2h h2i,
   (ao (st := bH) h2g h2h h2i).binds (ps := ["self", "words"]) ‹2›,
   ao (st := cH) h2k h2l h2m,
   (ao (st := cH) h2k h2l h2m).binds (ps := ["self"]) ‹1›,
   (xP (st := bh) h2o h2p h2q h2r),
   (xP (st := bh) h2o h2p h2q h2r).binds (es := []) (fun T _ _ _ _ _ _ us M A E Q s to n ht hc hd hl hq => match us, hl with | [_, _], _ => BindsTo.of_defaults rfl ht hd rfl rfl M A E Q hq),
   ao (st := bU) h2t h2u h2v,
   (ao (st := bU) h2t h2u h2v).binds (ps := ["self"]) ‹1›,
   ao (st := cX) h2x h2y h2z,
   (ao (st := cX) h2x h2y h2z).binds (ps := ["numbers"]) ‹1›,
   h2z,
   W.mg_of X G h2w,
   ao (st := bI) h31 h32 h33,
   (ao (st := bI) h31 h32 h33).binds (ps := ["words"]) ‹1›,
   h33,
   W.mg_of X G h30,
   ao (st := aG) h35 h36 h37,
   (ao (st := aG) h35 h36 h37).binds (ps := ["words"]) ‹1›,
   h37,
   W.mg_of X G h34,
   ao (st := bV) h39 h3a h3b,
   (ao (st := bV) h39 h3a h3b).binds (ps := ["words"]) ‹1›,
   h3b,
   W.mg_of X G h38,
   ao (st := bJ) h3d h3e h3f,
   (ao (st := bJ) h3d h3e h3f).binds (ps := ["words"]) ‹1›,
   h3f,
   W.mg_of X G h3c,
   ao (st := bW) h3h h3i h3j,
   (ao (st := bW) h3h h3i h3j).binds (ps := ["first", "words"]) ‹2›,
   h3j,
   W.mg_of X G h3g,
   ao (st := gb) h3l h3m h3n,
   (ao (st := gb) h3l h3m h3n).binds (ps := ["text"]) ‹1›,
   h3n,
   W.mg_of X G h3k,
   (xP (st := cI) h3p h3q h3r h3s),
   (xP (st := cI) h3p h3q h3r h3s).binds (fun T _ _ _ _ _ _ us M A E Q s to n ht hc hd hl hq => match us, Fd (m := 3) hl rfl with | [_, _, _], _ => BindsTo.of_defaults rfl ht hd rfl rfl M A E Q hq),
   .cons rfl (.nil),
   ao (st := cY) h3u h3v h3w,
   (ao (st := cY) h3u h3v h3w).binds (ps := ["self"]) ‹1›,
   ao (st := cZ) h3y h3z h40,
   (ao (st := cZ) h3y h3z h40).binds (ps := ["self"]) ‹1›,
   ao (st := aO) h42 h43 h44,
   (ao (st := aO) h42 h43 h44).binds (ps := ["self", "name", "how", "number"]) ‹4›,
   ao (st := aV) h46 h47 h48,
   (ao (st := aV) h46 h47 h48).binds (ps := ["self"]) ‹1›,
   ao (st := aW) h4a h4b h4c,
   (ao (st := aW) h4a h4b h4c).binds (ps := ["self"]) ‹1›,
   ao (st := bY) h4e h4f h4g,
   (ao (st := bY) h4e h4f h4g).binds (ps := ["self", "test"]) ‹2›,
   ao (st := cJ) h4i h4j h4k,
   (ao (st := cJ) h4i h4j h4k).binds (ps := ["self"]) ‹1›,
   ao (st := cL) h4m h4n h4o,
   (ao (st := cL) h4m h4n h4o).binds (ps := ["self"]) ‹1›,
   ao (st := bK) h4q h4r h4s,
   (ao (st := bK) h4q h4r h4s).binds (ps := ["self", "one", "other"]) ‹3›,
   ao (st := aK) h4u h4v h4w,
   (ao (st := aK) h4u h4v h4w).binds (ps := ["self", "word"]) ‹2›,
   ao (st := bZ) h4y h4z h50,
   (ao (st := bZ) h4y h4z h50).binds (ps := ["self"]) ‹1›,
   ao (st := b7) h52 h53 h54,
   (ao (st := b7) h52 h53 h54).binds (ps := ["self"]) ‹1›,
   ao (st := bj) h56 h57 h58,
   (ao (st := bj) h56 h57 h58).binds (ps := ["self"]) ‹1›,
   ao (st := aH) h5a h5b h5c,
   (ao (st := aH) h5a h5b h5c).binds (ps := ["self", "words"]) ‹2›,
   ao (st := aP) h5e h5f h5g,
   (ao (st := aP) h5e h5f h5g).binds (ps := ["self"]) ‹1›,
   ao (st := aA) h5i h5j h5k,
   (ao (st := aA) h5i h5j h5k).binds (ps := ["self"]) ‹1›,
   ao (st := dz) h5m h5n h5o,
   (ao (st := dz) h5m h5n h5o).binds (ps := ["name", "how", "what"]) ‹3›,
   h5o,
   W.mg_of X G h5l,
   ao (st := dB) h5q h5r h5s,
   (ao (st := dB) h5q h5r h5s).binds (ps := ["left", "deepest"]) ‹2›,
   h5s,
   W.mg_of X G h5p,
   ao (st := dC) h5u h5v h5w,
   (ao (st := dC) h5u h5v h5w).binds (ps := ["left", "deepest"]) ‹2›,
   h5w,
   W.mg_of X G h5t,
   ao (st := cM) h5y h5z h60,
   (ao (st := cM) h5y h5z h60).binds (ps := ["text"]) ‹1›,
   h60,
   W.mg_of X G h5x,
   ao (st := cN) h62 h63 h64,
   (ao (st := cN) h62 h63 h64).binds (ps := ["_law_script", "_law_k"]) ‹2›,
   h64,
   W.mg_of X G h61,
   ao (st := dD) h66 h67 h68,
   (ao (st := dD) h66 h67 h68).binds (ps := ["_law_cell", "_law_k"]) ‹2›,
   h68,
   W.mg_of X G h65,
   ao (st := eH) h6a h6b h6c,
   (ao (st := eH) h6a h6b h6c).binds (ps := ["_law_word"]) ‹1›,
   h6c,
   W.mg_of X G h69,
   ao (st := eN) h6e h6f h6g,
   (ao (st := eN) h6e h6f h6g).binds (ps := ["_law_cell"]) ‹1›,
   h6g,
   W.mg_of X G h6d,
   ao (st := dg) h6i h6j h6k,
   (ao (st := dg) h6i h6j h6k).binds (ps := ["_law_cell"]) ‹1›,
   h6k,
   W.mg_of X G h6h,
   ao (st := dF) h6m h6n h6o,
   (ao (st := dF) h6m h6n h6o).binds (ps := ["_law_number_here"]) ‹1›,
   h6o,
   W.mg_of X G h6l,
   ao (st := dh) h6q h6r h6s,
   (ao (st := dh) h6q h6r h6s).binds (ps := ["_law_cell"]) ‹1›,
   h6s,
   W.mg_of X G h6p,
   ao (st := eO) h6u h6v h6w,
   (ao (st := eO) h6u h6v h6w).binds (ps := ["_law_cell"]) ‹1›,
   h6w,
   W.mg_of X G h6t,
   ao (st := eQ) h6y h6z h70,
   (ao (st := eQ) h6y h6z h70).binds (ps := ["_law_cell"]) ‹1›,
   h70,
   W.mg_of X G h6x,
   ao (st := di) h72 h73 h74,
   (ao (st := di) h72 h73 h74).binds (ps := ["_law_cell", "_law_deep"]) ‹2›,
   h74,
   W.mg_of X G h71,
   ao (st := eU) h76 h77 h78,
   (ao (st := eU) h76 h77 h78).binds (ps := ["_law_found", "_law_due"]) ‹2›,
   h78,
   W.mg_of X G h75,
   ao (st := aL) h7a h7b h7c,
   (ao (st := aL) h7a h7b h7c).binds (ps := ["_law_row", "_law_name_here", "_law_kind_here", "_law_saying_here"]) ‹4›,
   h7c,
   W.mg_of X G h79,
   ao (st := bu) h7e h7f h7g,
   (ao (st := bu) h7e h7f h7g).binds (ps := ["_law_row", "_law_name_here", "_law_saying_here", "_law_firm"]) ‹4›,
   h7g,
   W.mg_of X G h7d,
   ao (st := bw) h7i h7j h7k,
   (ao (st := bw) h7i h7j h7k).binds (ps := ["_law_sheet", "_law_name_here", "_law_each", "_law_rows", "_law_ways"]) ‹5›,
   h7k,
   W.mg_of X G h7h,
   ao (st := yt) h7m h7n h7o,
   W.mg_of X G h7l,
   ⟨_, W.mg_of X G h7p, _, rfl⟩,
   ⟨_, W.mg_of X G h7q, _, rfl⟩,
   ⟨_, W.mg_of X G h7r, _, rfl⟩,
   ⟨_, W.mg_of X G h7s, rfl⟩,
   lG.mod h7t h7u h7v h7w,
   ⟨_, W.mg_of X G h7x, _, rfl⟩,
   ⟨_, W.mg_of X G h7y, _, rfl⟩,
   ⟨_, W.mg_of X G h7z, _, rfl⟩,
   ⟨_, W.mg_of X G h80, _, rfl⟩,
   ⟨_, W.mg_of X G h81, _, rfl⟩,
   ⟨_, W.mg_of X G h82, _, rfl⟩,
   ⟨_, W.mg_of X G h83, rfl⟩,
   lG.mod h84 h85 h86 h87,
   W.mg_none_of X G h88,
   W.mg_none_of X G h89,
   W.mg_none_of X G h8a,
   W.mg_none_of X G h8b,
   W.mg_none_of X G h8c,
   W.mg_none_of X G h8d,
   W.mg_none_of X G h8e,
   W.mg_none_of X G h8f,
   W.mg_none_of X G h8g,
   W.mg_none_of X G h8h,
   W.mg_none_of X G h8i,
   L2.dM (by symm),
   L2.dM (by symm),
   L2.dM (by symm),
   L2.dM (by symm),
   L2.dM (by symm),
   L2.dM (by symm),
   L2.dM (by symm),
   L2.dM (by symm),
   L2.dM (by symm),
   L2.dM (by symm),
   L2.dM (by symm),
   L2.dM (by symm),
   L2.dM (by symm),
   L2.dM (by symm),
   L2.dM (by symm),
   L2.dM (by symm),
   L2.dM (by symm),
   L2.dM (by symm),
   L2.dM (by symm),
   L2.dM (by symm),
   L2.dM (by symm),
   L2.dM (by symm),
   L2.dM (by symm),
   W.mg_of X G h8j,
   ⟨_, W.mg_of X G h8j, rfl⟩,
   W.mg_of X G h8k,
   W.mg_of X G h8l,
   ⟨_, W.mg_of X G h8l, rfl⟩,
   W.mg_of X G h8m,
   W.mg_of X G h8n,
   W.mg_of X G h8o,
   W.mg_of X G h8p,
   W.mg_of X G h8q,
   W.mg_of X G h8r,
   W.mg_of X G h8s,
   W.mg_of X G h8t,
   W.mg_of X G h8u,
   W.mg_of X G h8v,
   W.mg_of X G h8x,
   W.mg_of X G h8y,
   W.mg_of X G h8z,
   ⟨_, W.mg_of X G h8z, rfl⟩,
   W.mg_of X G h91,
   W.mg_of X G h92,
   W.mg_of X G h93,
   W.mg_of X G h94,
   h9j,
   h9k,
   h9l,
   Yq h9m h9b h9c h9n,
   mJ h9h h9i h9o h9p,
   mJ h9h h9i h9q h9r,
   mJ h9h h9i h9s h9t,
   mJ h9h h9i h9u h9v,
   mJ h9h h9i h9w h9x,
   nD,
   nD,
   nD,
   nD,
   nD,
   mJ h95 h96 h9y h9z,
   nD,
   mJ h9f h9g ha0 ha1,
   nD,
   mJ h97 h98 ha2 ha3,
   mJ h9f h9g ha4 ha5,
   ⟨ha6, ha7, ha8, ha9⟩,
   ⟨haa, hab, hac, had⟩,
   ⟨hae, haf, h3w⟩,
   ⟨hag, hah, h40⟩,
   hai,
   haj,
   hak,
   ⟨hal, ham, han, hao⟩,
   ⟨hap, haq, har, has⟩,
   ⟨hat, hau, h48⟩,
   ⟨hav, haw, h4c⟩,
   hax,
   hay,
   haz,
   ⟨hb0, hb1, hb2, hb3⟩,
   ⟨hb4, hb5, hb6, hb7⟩,
   ⟨hb8, hb9, h4k⟩,
   ⟨hba, hbb, h4o⟩,
   hbc,
   ⟨hbd, hbe, hbf, hbg⟩,
   ⟨hbh, hbi, hbj, hbk⟩,
   ⟨hbl, hbm, h54⟩,
   ⟨hbn, hbo, h50⟩,
   ⟨hbp, hbq, h4w⟩,
   hbr,
   hbs,
   ⟨hbt, hbu, hbv, hbw⟩,
   ⟨hbx, hby, hbz, hc0⟩,
   ⟨hc1, hc2, h58⟩,
   ⟨hc3, hc4, h50⟩,
   ⟨hc5, hc6, h4w⟩,
   hc7,
   hc8,
   ⟨hc9, hca, hcb, hcc⟩,
   ⟨hcd, hce, hcf, hcg⟩,
   ⟨hch, hci, h5g⟩,
   ⟨hcj, hck, h5k⟩,
   hcl,
   hcm,
   ⟨hcn, hco, hcp, hcq⟩,
   ⟨hcr, hcs, hct, hcu⟩,
   ⟨hcv, hcw, h1u⟩,
   hcx,
   hcy,
   ⟨hcz, hd0, hd1, hd2⟩,
   ⟨hd3, hd4, hd5, hd6⟩,
   ⟨hd7, hd8, h1y⟩,
   ⟨hd9, hda, h26⟩,
   ⟨hdb, hdc, h22⟩,
   hdd,
   hde,
   ⟨hdf, hdg, hdh, hdi⟩,
   ⟨hdj, hdk, hdl, hdm⟩,
   ⟨hdn, hdo, h2a⟩,
   ⟨hdp, hdq, h2e⟩,
   ⟨hdr, hds, h22⟩,
   hdt,
   hdu,
   ⟨hdv, hdw, hdx, hdy⟩,
   ⟨hdz, he0, he1, he2⟩,
   ⟨he3, he4, h2m⟩,
   he5,
   he6,
   he7,
   ⟨he8, he9, hea, heb⟩,
   ⟨hec, hed, hee, hef⟩,
   ⟨heg, heh, h2v⟩,
   hei,
   hej,
   ⟨hek, hel, hem, hen⟩,
   fun _ _ _ _ e => .ins e ⟨hek, hel, hem, hen⟩ heo hep heq her,
   ⟨hes, het, heu, hev⟩,
   hew,
   hex,
   hey,
   ⟨hez, hf0, hf1, hf2⟩,
   fun _ _ _ _ e => .ins e ⟨hez, hf0, hf1, hf2⟩ hf3 hf4 hf5 hf6,
   ⟨hf7, hf8, hf9, hfa⟩,
   hfb,
   hfc,
   hfd,
   ⟨hfe, hff, hfg, hfh⟩,
   ⟨hfi, hfj, hfk, hfl⟩,
   hfm,
   hfn,
   hfo,
   hfp,
   ⟨hfq, hfr, hfs, hft⟩,
   ⟨hfu, hfv, hfw, hfx⟩,
   hfy,
   hfz,
   hg0,
   ⟨hg1, hg2, hg3, h1m⟩,
   ⟨hg4, hg5, hg6, h03⟩⟩⟩
theorem walk {l : W.OpenLaw} {q : Program} {loose : List Str} {XP : (Str → Option Value) → Heap → Prop} {YP : World → Heap → Prop} {d : DefRec} {K : Params → W.Frag} (hn : l.most = some 63) (hdf : d.params.defaults = []) (hnm : d.name = "law")
   (hY : ∀ (w : World) (h : Heap), YP w h → (K w.params).In h)
   (F : ∀ (w : World) (mg : Str → Option Value) (h : Heap), (K w.params).In h → h.Ns mainGlobals mg → ∃ A : dW, Txt (K w.params) mg A) :
   W.WalkO q loose XP YP l.row.toRowW d [] (fun f vs => PySem.call f vs) := by
 refine L2.Vt (n := 63) (k := 50) (x := "_law_script") (CX := fun _ => cD) (sp := fun w => Ii (K w.params)) hn (by decide) hdf ⟨rfl, by decide, by decide⟩ hY (fun w mg fa h KX G hmg => ?_) (fun w H a ns hl hb _ hS => ⟨a, ns, rfl, hS, hl, hb, fun _ => rfl⟩) fun _ _ _ _ _ z => z
 obtain ⟨A, T⟩ := F w mg h KX G
 rw [hnm] at hmg
 have e := hmg.symm.trans T.aeg
 cases e
 obtain ⟨oc, od, kV, doc, pm, an, cdv, ct, osl, efd, lk, hcd⟩ := id T.ZM.ex
 exact ⟨A.RV, fun s v => by rw [efd]; exact .of_eq rfl, fun base _ _ => Rp T⟩
end fX
open PySem PySem.W PyProof.Rows
set_option maxRecDepth 100000 in
set_option maxHeartbeats 0 in
theorem PySem.Challenge.cw_askpaper_k21_fields_holds : PySem.Challenge.rw_askpaper_k21_fields.Holds := by
 refine PySem.Challenge.hd21 ?_
 k_fill
 refine fX.walk (l := PySem.Challenge.rw_askpaper_k21_fields) rfl rfl rfl (fun w h Y => W.kIn_of Y) ?F
 case F =>
   intro w mg h KX G
   have T : ∃ A : fX.dW, fX.Txt (L2.KOf KX) mg A := by
     dsimp only [L2.KOf]
     refine' fX.abR KX G ?h8j ?h8k ?h8l ?h8m ?h8n ?h8o ?h8p ?h8q ?h8r ?h8s ?h8t ?h8u ?h8v ?h8w ?h8x ?h8y ?h8z ?h90 ?h91 ?h92 ?h93 ?h94 ?h00 ?h01 ?h02 ?h03 ?h04 ?h05 ?h06 ?h07 ?h08 ?h09 ?h0a ?h0b ?h0c ?h0d ?h0e ?h0f ?h0g ?h0h ?h0i ?h0j ?h0k ?h0l ?h0m ?h0n ?h0o ?h0p ?h0q ?h0r ?h0s ?h0t ?h0u ?h0v ?h0w ?h0x ?h0y ?h0z ?h10 ?h11 ?h12 ?h13 ?h14 ?h15 ?h16 ?h17 ?h18 ?h19 ?h1a ?h1b ?h1c ?h1d ?h1e ?h1f ?h1g ?h1h ?h1i ?h1j ?h1k ?h1l ?h1m ?h1n ?h1o ?h1p ?h1q ?h1r ?h1s ?h1t ?h1u ?h1v ?h1w ?h1x ?h1y ?h1z ?h20 ?h21 ?h22 ?h23 ?h24 ?h25 ?h26 ?h27 ?h28 ?h29 ?h2a ?h2b ?h2c ?h2d ?h2e ?h2f ?h2g ?h2h ?h2i ?h2j ?h2k ?h2l ?h2m ?h2n ?h2o ?h2p ?h2q ?h2r ?h2s ?h2t ?h2u ?h2v ?h2w ?h2x ?h2y ?h2z ?h30 ?h31 ?h32 ?h33 ?h34 ?h35 ?h36 ?h37 ?h38 ?h39 ?h3a ?h3b ?h3c ?h3d ?h3e ?h3f ?h3g ?h3h ?h3i ?h3j ?h3k ?h3l ?h3m ?h3n ?h3o ?h3p ?h3q ?h3r ?h3s ?h3t ?h3u ?h3v ?h3w ?h3x ?h3y ?h3z ?h40 ?h41 ?h42 ?h43 ?h44 ?h45 ?h46 ?h47 ?h48 ?h49 ?h4a ?h4b ?h4c ?h4d ?h4e ?h4f ?h4g ?h4h ?h4i ?h4j ?h4k ?h4l ?h4m ?h4n ?h4o ?h4p ?h4q ?h4r ?h4s ?h4t ?h4u ?h4v ?h4w ?h4x ?h4y ?h4z ?h50 ?h51 ?h52 ?h53 ?h54 ?h55 ?h56 ?h57 ?h58 ?h59 ?h5a ?h5b ?h5c ?h5d ?h5e ?h5f ?h5g ?h5h ?h5i ?h5j ?h5k ?h5l ?h5m ?h5n ?h5o ?h5p ?h5q ?h5r ?h5s ?h5t ?h5u ?h5v ?h5w ?h5x ?h5y ?h5z ?h60 ?h61 ?h62 ?h63 ?h64 ?h65 ?h66 ?h67 ?h68 ?h69 ?h6a ?h6b ?h6c ?h6d ?h6e ?h6f ?h6g ?h6h ?h6i ?h6j ?h6k ?h6l ?h6m ?h6n ?h6o ?h6p ?h6q ?h6r ?h6s ?h6t ?h6u ?h6v ?h6w ?h6x ?h6y ?h6z ?h70 ?h71 ?h72 ?h73 ?h74 ?h75 ?h76 ?h77 ?h78 ?h79 ?h7a ?h7b ?h7c ?h7d ?h7e ?h7f ?h7g ?h7h ?h7i ?h7j ?h7k ?h7l ?h7m ?h7n ?h7o ?h7p ?h7q ?h7r ?h7s ?h7t ?h7u ?h7v ?h7w ?h7x ?h7y ?h7z ?h80 ?h81 ?h82 ?h83 ?h84 ?h85 ?h86 ?h87 ?h88 ?h89 ?h8a ?h8b ?h8c ?h8d ?h8e ?h8f ?h8g ?h8h ?h8i ?h95 ?h96 ?h97 ?h98 ?h99 ?h9a ?h9b ?h9c ?h9d ?h9e ?h9f ?h9g ?h9h ?h9i ?h9j ?h9k ?h9l ?h9m ?h9n ?h9o ?h9p ?h9q ?h9r ?h9s ?h9t ?h9u ?h9v ?h9w ?h9x ?h9y ?h9z ?ha0 ?ha1 ?ha2 ?ha3 ?ha4 ?ha5 ?ha6 ?ha7 ?ha8 ?ha9 ?haa ?hab ?hac ?had ?hae ?haf ?hag ?hah ?hai ?haj ?hak ?hal ?ham ?han ?hao ?hap ?haq ?har ?has ?hat ?hau ?hav ?haw ?hax ?hay ?haz ?hb0 ?hb1 ?hb2 ?hb3 ?hb4 ?hb5 ?hb6 ?hb7 ?hb8 ?hb9 ?hba ?hbb ?hbc ?hbd ?hbe ?hbf ?hbg ?hbh ?hbi ?hbj ?hbk ?hbl ?hbm ?hbn ?hbo ?hbp ?hbq ?hbr ?hbs ?hbt ?hbu ?hbv ?hbw ?hbx ?hby ?hbz ?hc0 ?hc1 ?hc2 ?hc3 ?hc4 ?hc5 ?hc6 ?hc7 ?hc8 ?hc9 ?hca ?hcb ?hcc ?hcd ?hce ?hcf ?hcg ?hch ?hci ?hcj ?hck ?hcl ?hcm ?hcn ?hco ?hcp ?hcq ?hcr ?hcs ?hct ?hcu ?hcv ?hcw ?hcx ?hcy ?hcz ?hd0 ?hd1 ?hd2 ?hd3 ?hd4 ?hd5 ?hd6 ?hd7 ?hd8 ?hd9 ?hda ?hdb ?hdc ?hdd ?hde ?hdf ?hdg ?hdh ?hdi ?hdj ?hdk ?hdl ?hdm ?hdn ?hdo ?hdp ?hdq ?hdr ?hds ?hdt ?hdu ?hdv ?hdw ?hdx ?hdy ?hdz ?he0 ?he1 ?he2 ?he3 ?he4 ?he5 ?he6 ?he7 ?he8 ?he9 ?hea ?heb ?hec ?hed ?hee ?hef ?heg ?heh ?hei ?hej ?hek ?hel ?hem ?hen ?heo ?hep ?heq ?her ?hes ?het ?heu ?hev ?hew ?hex ?hey ?hez ?hf0 ?hf1 ?hf2 ?hf3 ?hf4 ?hf5 ?hf6 ?hf7 ?hf8 ?hf9 ?hfa ?hfb ?hfc ?hfd ?hfe ?hff ?hfg ?hfh ?hfi ?hfj ?hfk ?hfl ?hfm ?hfn ?hfo ?hfp ?hfq ?hfr ?hfs ?hft ?hfu ?hfv ?hfw ?hfx ?hfy ?hfz ?hg0 ?hg1 ?hg2 ?hg3 ?hg4 ?hg5 ?hg6
     (case h8j|h8k|h8l|h8m|h8n|h8o|h8p|h8q|h8r|h8s|h8t|h8u|h8v|h8w|h8x|h8y|h8z|h90|h91|h92|h93|h94|h00|h01|h02|h03|h04|h05|h06|h07|h08|h09|h0a|h0b|h0c|h0d|h0e|h0f|h0g|h0h|h0i|h0j|h0k|h0l|h0m|h0n|h0o|h0p|h0q|h0r|h0s|h0t|h0u|h0v|h0w|h0x|h0y|h0z|h10|h11|h12|h13|h14|h15|h16|h17|h18|h19|h1a|h1b|h1c|h1d|h1e|h1f|h1g|h1h|h1i|h1j|h1k|h1l|h1m|h1n|h1o|h1p|h1q|h1r|h1s|h1t|h1u|h1v|h1w|h1x|h1y|h1z|h20|h21|h22|h23|h24|h25|h26|h27|h28|h29|h2a|h2b|h2c|h2d|h2e|h2f|h2g|h2h|h2i|h2j|h2k|h2l|h2m|h2n|h2o|h2p|h2q|h2r|h2s|h2t|h2u|h2v|h2w|h2x|h2y|h2z|h30|h31|h32|h33|h34|h35|h36|h37|h38|h39|h3a|h3b|h3c|h3d|h3e|h3f|h3g|h3h|h3i|h3j|h3k|h3l|h3m|h3n|h3o|h3p|h3q|h3r|h3s|h3t|h3u|h3v|h3w|h3x|h3y|h3z|h40|h41|h42|h43|h44|h45|h46|h47|h48|h49|h4a|h4b|h4c|h4d|h4e|h4f|h4g|h4h|h4i|h4j|h4k|h4l|h4m|h4n|h4o|h4p|h4q|h4r|h4s|h4t|h4u|h4v|h4w|h4x|h4y|h4z|h50|h51|h52|h53|h54|h55|h56|h57|h58|h59|h5a|h5b|h5c|h5d|h5e|h5f|h5g|h5h|h5i|h5j|h5k|h5l|h5m|h5n|h5o|h5p|h5q|h5r|h5s|h5t|h5u|h5v|h5w|h5x|h5y|h5z|h60|h61|h62|h63|h64|h65|h66|h67|h68|h69|h6a|h6b|h6c|h6d|h6e|h6f|h6g|h6h|h6i|h6j|h6k|h6l|h6m|h6n|h6o|h6p|h6q|h6r|h6s|h6t|h6u|h6v|h6w|h6x|h6y|h6z|h70|h71|h72|h73|h74|h75|h76|h77|h78|h79|h7a|h7b|h7c|h7d|h7e|h7f|h7g|h7h|h7i|h7j|h7k|h7l|h7m|h7n|h7o|h7p|h7q|h7r|h7s|h7t => k_is)
     (case h7u => rfl)
     (case h7v => exact Nat.le_of_ble_eq_true rfl)
     (case h7w => exact .cons ⟨_, rfl⟩ (.cons ⟨_, rfl⟩ (.cons ⟨_, rfl⟩ (.nil))))
     (case h7x|h7y|h7z|h80|h81|h82|h83|h84 => k_is)
     (case h85 => rfl)
     (case h86 => exact Nat.le_of_ble_eq_true rfl)
     (case h87 => exact .cons ⟨_, rfl⟩ (.cons ⟨_, rfl⟩ (.cons ⟨_, rfl⟩ (.cons ⟨_, rfl⟩ (.cons ⟨_, rfl⟩ (.cons ⟨_, rfl⟩ (.cons ⟨_, rfl⟩ (.cons ⟨_, rfl⟩ (.nil)))))))))
     (case h88|h89|h8a|h8b|h8c|h8d|h8e|h8f|h8g|h8h|h8i|h95|h96|h97|h98|h99|h9a|h9b|h9c|h9d|h9e|h9f|h9g|h9h|h9i => k_is)
     (case h9j => k_exc)
     (case h9k => k_exc)
     (case h9l => k_exc)
     (case h9m|h9n|h9o => k_is)
     (case h9p => rfl)
     (case h9q => k_is)
     (case h9r => rfl)
     (case h9s => k_is)
     (case h9t => rfl)
     (case h9u => k_is)
     (case h9v => rfl)
     (case h9w => k_is)
     (case h9x => rfl)
     (case h9y => k_is)
     (case h9z => rfl)
     (case ha0 => k_is)
     (case ha1 => rfl)
     (case ha2 => k_is)
     (case ha3 => rfl)
     (case ha4 => k_is)
     (case ha5 => rfl)
     (case ha6|ha7|ha8|ha9|haa|hab|hac|had|hae|haf|hag|hah|hai|haj|hak|hal|ham|han|hao|hap|haq|har|has|hat|hau|hav|haw|hax|hay|haz|hb0|hb1|hb2|hb3|hb4|hb5|hb6|hb7|hb8|hb9|hba|hbb|hbc|hbd|hbe|hbf|hbg|hbh|hbi|hbj|hbk|hbl|hbm|hbn|hbo|hbp|hbq|hbr|hbs|hbt|hbu|hbv|hbw|hbx|hby|hbz|hc0|hc1|hc2|hc3|hc4|hc5|hc6|hc7|hc8|hc9|hca|hcb|hcc|hcd|hce|hcf|hcg|hch|hci|hcj|hck|hcl|hcm|hcn|hco|hcp|hcq|hcr|hcs|hct|hcu|hcv|hcw|hcx|hcy|hcz|hd0|hd1|hd2|hd3|hd4|hd5|hd6|hd7|hd8|hd9|hda|hdb|hdc|hdd|hde|hdf|hdg|hdh|hdi|hdj|hdk|hdl|hdm|hdn|hdo|hdp|hdq|hdr|hds|hdt|hdu|hdv|hdw|hdx|hdy|hdz|he0|he1|he2|he3|he4|he5|he6|he7|he8|he9|hea|heb|hec|hed|hee|hef|heg|heh|hei|hej|hek|hel|hem|hen|heo|hep|heq|her|hes|het|heu|hev|hew|hex|hey|hez|hf0|hf1|hf2|hf3|hf4|hf5|hf6|hf7|hf8|hf9|hfa|hfb|hfc|hfd|hfe|hff|hfg|hfh|hfi|hfj|hfk|hfl|hfm|hfn|hfo|hfp|hfq|hfr|hfs|hft|hfu|hfv|hfw|hfx|hfy|hfz|hg0|hg1|hg2|hg3|hg4|hg5|hg6 => k_is)
   exact T
