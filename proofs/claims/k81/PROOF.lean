import PyProof.Rows.All
import Wide.All
import Wide.FinOn
import OpenK.KLine
import OpenK.KLaw
import OpenK.KMore
import KE.KIsAll
import KE.KItem
import KE.KNestM
import KE.KLam
import KE.KSortKey
import KE.KIntText
import Lean
import PySem.Challenge.RW_tuningyard_k81_desk_commas_and_keys
set_option Elab.async false
set_option linter.all false
set_option maxRecDepth 100000
set_option maxHeartbeats 0
namespace PySem.W.Fast
def tw9610714468204345669:=0
def tw9704000256496012744:=0
def tw16925293462755243876:=0
def tw9577221689991544876:=0
def tw5814736590259725134:=0
def tw15154609769669150266:=0
def tw14477804824420036277:=0
def tw3790119210767918842:=0
def tw11001250507536009348:=0
def tw9067787969554656350:=0
def tw6414686742310971574:=0
def tw11433110491180321725:=0
def tw433449533723322577:=0
def tw4173927335362580248:=0
def tw13900112907384792619:=0
def tw14954812107138868732:=0
def tw3289516931453213640:=0
def tw10328735971474035383:=0
def tw10076328020386356784:=0
def tw1478540533737767307:=0
def tw16621490086237800751:=0
def tw2819684306404332512:=0
def tw110332535048041367:=0
def tw17572082982353574344:=0
def tw6931410565657630944:=0
def tw2957643219391579180:=0
def tw8492499313843599881:=0
def tw13685919821797266536:=0
def tw1366185914914616465:=0
def tw8752660887257217403:=0
def tw11005185839543188982:=0
def tw8514475088291377345:=0
def tw3733009385428107103:=0
def tw12805208841069345902:=0
def tw14770756325596245439:=0
def tw2892403012956446861:=0
def tw9144736267306436241:=0
def tw3070867063561469948:=0
def tw12005263435099541892:=0
def tw9742642107149158002:=0
def tw14584430868199679304:=0
def tw9868157495424651290:=0
def tw10423101411284415097:=0
def tw2831558872098864864:=0
def tw16919213658170211154:=0
def tw163589077641062226:=0
def tw3530698564315646397:=0
def tw14274139137338781680:=0
def tw13265029984693605223:=0
def tw11952767732541653242:=0
def tw16459873213128520619:=0
def tw9246788489692488221:=0
def tw7272880212495345873:=0
def tw13403305924829330264:=0
def tw6108488184996066461:=0
def tw2245957560843894860:=0
def tw17086478075590227585:=0
def tw13784975115320019603:=0
def tw14205204236482535580:=0
def tw1588209254478482236:=0
def tw11435813294290603067:=0
def tw3966023703972891708:=0
def tw6481033166497588876:=0
def tw10431022035770256479:=0
def tw16777367243415062903:=0
def tw1690328646154367049:=0
def tw13395446353032701828:=0
def tw9811457836947992993:=0
def tw6147612269229501946:=0
def tw17372915627576573109:=0
def tw5691589205920710260:=0
def tw14604954357403025483:=0
def tw12447986480530356615:=0
def tw13977841639761093739:=0
def tw13430813120109844259:=0
def tw369615588016229062:=0
def tw704612915473858894:=0
def tw3456693538970727508:=0
def tw8157588042613284802:=0
def tw8007861524918308788:=0
def tw4626206062178549697:=0
def tw11048884603877451276:=0
def tw6857523328331266130:=0
def tw17433417765456520707:=0
def tw10819417647425350510:=0
def tw16134231026191644769:=0
def tw4499022334669169164:=0
def tw14463454803420552819:=0
def tw752309493573505999:=0
def tw17181798777585861775:=0
def tw8970398779018627635:=0
def tw7911063814479093998:=0
def tw10549030491357802159:=0
def tw16082755632255894192:=0
def tw7432344249011911745:=0
def tw6398312888381780652:=0
def tw6821456318234390883:=0
def tw18069254734049847995:=0
def tw9905467191254301608:=0
def tw3877022555377090912:=0
def tw9801498183689249130:=0
def tw6232933067268930691:=0
def tw14670691402331770939:=0
def tw11878654989389961487:=0
def tw16316683100144136493:=0
def tw1921180039826580147:=0
def tw15146090830453311553:=0
def tw10654728048031723347:=0
def tw17027067986568295344:=0
def tw3387482086938338482:=0
def tw10812648117547225242:=0
def tw7377127889919622209:=0
def tw1450281514019489485:=0
def tw4815627818806950703:=0
def tw15207972003649497583:=0
def tw14856743732311362393:=0
def tw10421853276714153646:=0
def tw1033506420196539871:=0
def tw6884838597283775839:=0
def tw3116936312027708160:=0
def tw13088388763394543810:=0
def tw9226199089800159975:=0
def tw2288885268674156425:=0
def tw11500112341848355728:=0
def tw12849991658245438760:=0
def tw8784884788544486365:=0
def tw4445660797612290844:=0
def tw598661973551443485:=0
def tw16550108034561887441:=0
def tw3744110612235440106:=0
def tw8174567894605762767:=0
def tw14735952674022157168:=0
def tw9996752279911235038:=0
def tw11266247336314728139:=0
def tw16674246683459375559:=0
def tw2827280203015393591:=0
def tw7548487873600486090:=0
def tw3225282723867579659:=0
def tw9140985235889873483:=0
def tw12393642965991253485:=0
def tw7831884786964163479:=0
def tw919137379794877578:=0
def tw2027277530202547428:=0
def tw84619918285467816:=0
def tw15544093398306933271:=0
def tw17885712226267543858:=0
def tw3203846627326706910:=0
def tw7164306888096571825:=0
def tw6348461530879763635:=0
def tw10823544553856487857:=0
def tw3839797078477234958:=0
def tw164728888624702044:=0
def tw7813764179942899683:=0
def tw11786415456053583675:=0
def tw6600838373070852959:=0
def tw179404740847820643:=0
def tw10175318236113140854:=0
def tw5271599621741363717:=0
def tw7176919479231066352:=0
def tw11460413130754650929:=0
def tw8323562090652624601:=0
def tw8444490570383370945:=0
def tw18118903570893377284:=0
def tw5782363716264957943:=0
def tw7789359956722446947:=0
def tw15614022388081247668:=0
def tw10036821104227850628:=0
def tw5159081714248710743:=0
def tw11696710025972111178:=0
def tw2828050199227839936:=0
def tw10447726833025586174:=0
def tw11407912623362767752:=0
def tw1781360731106406297:=0
def tw10907815027223722336:=0
def tw13253406620447108243:=0
def tw5552146100710929737:=0
def tw14854317093003465824:=0
def tw1095651791617211896:=0
def tw10330564787956809157:=0
def tw2575602205636748626:=0
def tw11369143451200667129:=0
def tw17093723854148034820:=0
def tw9035399963758710295:=0
def tw9641970052505758086:=0
def tw17378501531714639590:=0
def tw13458761363676719641:=0
def tw5242817329861563992:=0
def tw6898136916322194903:=0
def tw9519885708268104818:=0
def tw7079884061328843840:=0
def tw16462722387233099832:=0
def tw3400380410820284079:=0
def tw6976254277020469088:=0
def tw2806995777995707361:=0
def tw16263224433632188499:=0
def tw1660815840564049178:=0
def tw7963178662513940593:=0
def tw17674186845732715959:=0
def tw7049153299247687276:=0
def tw15430211188331502055:=0
def tw5063819881268464158:=0
def tw9194025582370704679:=0
def tw14783461222841583370:=0
def tw12845764376067009816:=0
def tw1956317971007466305:=0
def tw496680118753188446:=0
def tw9119576197354267384:=0
def tw2952916042520169169:=0
def tw9552114612467371148:=0
def tw5739776157543137368:=0
def tw12889548064505856536:=0
def tw313391624809234547:=0
def tw16800173828626923148:=0
def tw12335528480710172352:=0
def tw13753573752491760855:=0
def tw5238784176856702629:=0
def tw1201430047610551906:=0
def tw11180085928943697514:=0
def tw12531326997232260501:=0
def tw11753990195694777229:=0
def tw962717552067784302:=0
def tw6934383589323676923:=0
def tw10636545358588330056:=0
def tw1419520906319526283:=0
def tw11701326519359411417:=0
def tw12870463508019644051:=0
def tw196412843355685367:=0
def tw5689755724298552830:=0
def tw12439801542993547146:=0
def tw15984871867329897137:=0
def tw5242141373946115960:=0
def tw6481436816878484961:=0
def tw15657173843962752352:=0
def tw9055649473937319099:=0
def tw13089500736524491784:=0
def tw2329368931609108422:=0
def tw10649698331244477973:=0
def tw14675458683373246143:=0
def tw122082674940387156:=0
def tw15341724336707077576:=0
def tw6480608553596005449:=0
def tw10225033076191750725:=0
def tw10843411590185753596:=0
def tw5959821366176857273:=0
def tw12426114523846698640:=0
def tw15001891553673461710:=0
def tw12104376249783717822:=0
def tw17444369763018492121:=0
def tw3295395965478462921:=0
def tw8662492762478255639:=0
def tw4410812809674970966:=0
def tw6740338391605595224:=0
def tw4738200799432779391:=0
def tw6701221965760035375:=0
def tw2299301318049454381:=0
def tw6939442713815153382:=0
def tw10481295194157046369:=0
def tw182972387619624550:=0
def tw4904941032918185556:=0
def tw4113047337057562454:=0
def tw7225284870949117894:=0
def tw12749361390707485556:=0
def tw2194952879777625937:=0
def tw15905440944616172965:=0
def tw10573622984349570884:=0
def tw3682013743705549239:=0
def tw15579711806535815852:=0
def tw16735663496123205195:=0
def tw14894517962189811464:=0
def tw17726304046960226394:=0
def tw10015278671346087775:=0
def tw8257735351916489885:=0
def tw14500407802481584704:=0
def tw2813507996445089836:=0
def tw15020939116653066177:=0
def tw3916159212044247442:=0
def tw7901072336085198433:=0
def tw16352647711109360899:=0
def tw11884425164835815100:=0
def tw16787840100696843357:=0
def tw2303599823553654465:=0
def tw7949401025140812638:=0
def tw4781915541062568985:=0
def tw3818833939729199329:=0
def tw8094324728209423672:=0
def tw827586322308611860:=0
def tw8204483670946079483:=0
def tw16858325607895960823:=0
def tw9813078701538184049:=0
def tw3794656708985725438:=0
def tw1208311632912185180:=0
def tw378785082439942532:=0
def tw8212363854028459718:=0
def tw3310657126078137651:=0
def tw9322943140302045216:=0
def tw1971443876350502616:=0
def tw4486241284203393433:=0
def tw9734811559919569190:=0
def tw822938527831982799:=0
def tw14743115667731089466:=0
def tw10159784683022053506:=0
def tw16372916986799642910:=0
def tw8416311520165953153:=0
def tw3025924177216630634:=0
def tw4326088168741690928:=0
def tw17271021401627083086:=0
def tw2722630062766950951:=0
def tw3101032518931716791:=0
def tw7453573544792322695:=0
def tw2564521389371575686:=0
def tw9011467391326826158:=0
def tw215541451154498534:=0
def tw12338699784943176041:=0
def tw12452475169183555992:=0
end PySem.W.Fast
section
open PySem PySem.W PyProof.Rows
open_top Hd for PySem.Challenge.rw_tuningyard_k81_desk_commas_and_keys
end
set_option Elab.async false
set_option linter.all false
set_option maxRecDepth 100000
noncomputable section
open PySem.W (CodeHd Frag OpenLaw clsIn emptyDict excIn findIn handedIn hasDictIn instObj isFn kitx_dict kitx_list kitx_tuple makesIn methodObj mg_none_of mg_of mroIn plainGet plainGet_of plainOver specialIn subIn tabIn takerIn takesIn typeIn)
open PyProof.Rows (boot_abs boot_all boot_any boot_bool boot_int boot_isinstance boot_list boot_max boot_sorted boot_str boot_sum boot_tuple callWith_type1 split_pos)
open List (all_cons all_eq_true all_map any_cons any_eq_true append_nil cons_append cons_ne_nil drop_of_length_le ext_getElem filter_append filter_cons find?_cons forIn_cons forIn_nil getElem?_append_left getElem?_append_right getElem?_eq_getElem getElem?_eq_none getElem?_map getElem?_take getElem?_zipWith getElem_map getElem_mem getElem_of_mem getElem_range length_append length_cons length_drop length_eq_zero_iff length_filter_le length_map length_mapIdx length_range length_replicate length_take length_take_le' lookup_cons map_append map_congr_left map_cons map_const' map_eq_nil_iff map_map map_nil map_replicate map_take mem_append mem_append_left mem_append_right mem_cons mem_cons_of_mem mem_cons_self mem_filter mem_filterMap mem_iff_getElem mem_map mem_of_getElem? mem_range mem_singleton nil_append nodup_cons not_mem_nil of_mem_zip pairwise_cons pairwise_map range_succ size_toArray sum_cons take_add_one take_length take_of_length_le take_zero toList_toArray zipWith_cons_cons)
open Nat (add_le_add add_mul eq_zero_or_pos le_add_right le_mul_of_pos_left le_of_ble_eq_true le_of_eq log2_lt lt_of_le_of_lt lt_or_ge lt_succ_self lt_trans lt_trichotomy min_eq_left mod_lt mul_add mul_assoc mul_le_mul mul_le_mul_left mul_le_mul_right mul_pos ne_of_lt one_mul pow_add pow_le_pow_right pow_lt_pow_right pow_succ sub_self sub_zero two_pow_pos zero_add zero_le)
open Int (add_emod dvd_refl dvd_sub dvd_trans dvd_zero emod_lt_of_pos emod_nonneg eq_ofNat_of_zero_le mul_emod mul_eq_zero mul_le_mul_of_nonneg_left mul_neg mul_one mul_zero natAbs_mul natAbs_sub_le pow_zero toNat_natCast zero_dvd zero_mul)
section
open PySem PySem.Spec PyProof.Rows
abbrev aab:=@Heap.get?_push_of_some
abbrev aac:=@wpAny_bind
abbrev aad:=@List.getElem?_eq_some_iff
abbrev aae:=@Heap.lt_size
abbrev aaf:=@Heap.get?_push_size
abbrev aag:=@Nat.le_trans
abbrev aah:=@Nat.le_refl
abbrev aai:=@Nat.le_of_lt
abbrev aaj:=@Option.some.inj
abbrev aak:=@of_decide_eq_true
abbrev aal:=@of_decide_eq_false
abbrev aam:=@decide_eq_false
abbrev aan:=@decide_eq_true
abbrev aao:=@Option.isSome_iff_exists
abbrev aap:=@wpAny_pure
abbrev aaq:=@wpAny_mono
abbrev aar:=@List.mem_of_mem_take
abbrev aas:=@Int.fdiv_eq_ediv_of_nonneg
abbrev aat:=@getElem?_eq_getElem
abbrev aau:=@mem_append_right
abbrev aav:=@mem_append_left
abbrev aaw:=@mem_singleton
abbrev aax:=@mem_append
abbrev aay:=@mem_of_getElem?
abbrev aaz:=@length_map
abbrev aaA:=@length_append
abbrev aaB:=@mem_cons_of_mem
abbrev aaC:=@mem_cons
abbrev aaD:=@mem_map
abbrev aaE:=@mem_filter
abbrev aaF:=@pow_le_pow_right
abbrev aaG:=@lt_of_le_of_lt
abbrev aaH:=@mul_le_mul_right
abbrev aaI:=@mul_le_mul
abbrev aaJ:=@getElem?_append_left
abbrev aaK:=@getElem?_append_right
abbrev aaL:=@length_range
abbrev aaM:=@mem_range
abbrev aaN:=@take_length
abbrev aaO:=@length_take
abbrev aaP:=@size_toArray
abbrev aaQ:=@getElem?_map
abbrev aaR:=@map_append
abbrev aaS:=@map_map
abbrev aaT:=@map_congr_left
abbrev aaU:=@take_of_length_le
abbrev aaV:=@natAbs_mul
abbrev aaW:=@dvd_zero
abbrev aaX:=@mul_eq_zero
abbrev aaY:=@zero_dvd
abbrev aaZ:=@two_pow_pos
abbrev aa0:=@zero_le
abbrev aa1:=@ne_of_lt
abbrev aa2:=@le_of_ble_eq_true
abbrev aa3:=@pairwise_cons
abbrev aa4:=@length_filter_le
abbrev aa5:=@getElem_mem
abbrev aa6:=@getElem_of_mem
abbrev aa7:=@toNat_natCast
end
abbrev N6 (l:List PySem.Str):=List.Nodup l
theorem TH{p:Prop}(h:p:=by decide +kernel):p:=h
theorem aaa{p:Prop}(h:p:=by lia):p:=h
theorem aa8{p:Prop}(h:p:=by decide):p:=h
namespace L2
open PySem PySem.Spec PyProof.Rows
abbrev Key:=Sum Int Str
def xi:Key->Value->Bool
 | .inl k,v=>Value.isInt k v
 | .inr x,v=>Value.isStrOf x v
def X1(w:World):Key->Int
 | .inl k=>hashInt k
 | .inr x=>hashStr w x
theorem cb:∀ {k:Key} {v:Value},xi k v=true->(∃ i t,k=Sum.inl i/\v=Value.int i t)\/(∃ x t,k=Sum.inr x/\v=Value.str x t)
 | .inl i,v,h=>by
  obtain ⟨t,e⟩:=Value.isInt_shape (k:=i) (v:=v) h
  exact .inl ⟨i,t,rfl,e⟩
 | .inr x,v,h=>by
  obtain ⟨t,e⟩:=Value.isStrOf_shape (x:=x) (v:=v) h
  exact .inr ⟨x,t,rfl,e⟩
theorem Fq(i:Int)(t:Tok):xi (.inl i) (.int i t)=true:=by simp [xi,Value.isInt]
theorem ij(x:Str)(t:Tok):xi (.inr x) (.str x t)=true:=by simp [xi,Value.isStrOf]
theorem Pj(a b:Int):decide ((Sum.inl a:Key)=Sum.inl b)=(a == b):=by
 by_cases e:a=b
 ·subst e;simp
 ·have h:¬ (Sum.inl a:Key)=Sum.inl b:=fun q=>e (Sum.inl.inj q)
  rw [aam h]
  exact (beq_eq_false_iff_ne.mpr e).symm
theorem Pk(a b:Str):decide ((Sum.inr a:Key)=Sum.inr b)=decide (a=b):=by
 by_cases e:a=b
 ·subst e;simp
 ·have h:¬ (Sum.inr a:Key)=Sum.inr b:=fun q=>e (Sum.inr.inj q)
  rw [aam h,aam e]
theorem Pl(a:Int)(b:Str):decide ((Sum.inl a:Key)=Sum.inr b)=false:=aam (fun q=>nomatch q)
theorem Pm(a:Str)(b:Int):decide ((Sum.inr a:Key)=Sum.inl b)=false:=aam (fun q=>nomatch q)
def kl(prog:Program)(w:World):PySem.KeyKind prog w Key where
 is:=xi
 hash:=X1 w
 inj:=fun v a b ha hb=>by
  rcases cb ha with ⟨i,t,rfl,rfl⟩|⟨x,t,rfl,rfl⟩
  ·rcases cb hb with ⟨j,u,rfl,e⟩|⟨y,u,rfl,e⟩
   ·injection e with e1 _;rw [e1]
   ·exact nomatch e
  ·rcases cb hb with ⟨j,u,rfl,e⟩|⟨y,u,rfl,e⟩
   ·exact nomatch e
   ·injection e with e1 _;rw [e1]
 byValue:=fun k v h=>by
  rcases cb h with ⟨i,t,rfl,rfl⟩|⟨x,t,rfl,rfl⟩ <;> rfl
 pyHash:=fun hv h=>by
  rcases cb hv with ⟨i,t,rfl,rfl⟩|⟨x,t,rfl,rfl⟩
  ·exact wpAny_pyHash_int h
  ·exact wpAny_pyHash_str h
 eqBool:=fun hu hv h=>by
  rcases cb hu with ⟨i,t,rfl,rfl⟩|⟨x,t,rfl,rfl⟩
  ·rcases cb hv with ⟨j,u,rfl,rfl⟩|⟨y,u,rfl,rfl⟩
   ·rw [Pj] at h;exact wpAny_eqBool_int h
   ·rw [Pl] at h;exact SeqAt.EqAt.int_str i t y u _ _ _ _ h
  ·rcases cb hv with ⟨j,u,rfl,rfl⟩|⟨y,u,rfl,rfl⟩
   ·rw [Pm] at h;exact SeqAt.EqAt.str_int x t j u _ _ _ _ h
   ·rw [Pk] at h;exact wpAny_eqBool_str h
 «strs»:=fun k x t v h=>by
  rcases cb h with ⟨i,u,rfl,e⟩|⟨y,u,rfl,e⟩
  ·exact nomatch e
  ·injection e with e1 _
   subst e1
   cases v <;> rfl
theorem Af(prog:Program)(w:World)(i:Int)(t:Tok):(kl prog w).is (.inl i) (.int i t)=true:=Fq i t
theorem Ag(prog:Program)(w:World)(x:Str)(t:Tok):(kl prog w).is (.inr x) (.str x t)=true:=ij x t
inductive V where
 | cJ|bl (b:Bool)|int (i:Int)|str (x:Str)|HG (b:Array UInt8)|Pn (b:UInt64)|ref (a:Addr)|ty (n:String)
 deriving DecidableEq
def RelV:V->Value->Prop
 | .cJ,u=>u=Value.none
 | .bl b,u=>u=Value.bool b
 | .int i,u=>∃ t,u=Value.int i t
 | .str x,u=>∃ t,u=Value.str x t
 | .HG b,u=>∃ t,u=Value.bytes b t
 | .Pn b,u=>∃ t,u=Value.float b t
 | .ref a,u=>u=Value.ref a
 | .ty n,u=>u=Value.type n
abbrev Vals:List V->List Value->Prop:=Paired RelV
theorem Vals.length(r:Vals xs us):xs.length=us.length:=Paired.length r
theorem Vals.get:∀ {xs:List V} {us:List Value} {i:Nat} {x:V},Vals xs us->xs[i]?=some x->∃ u,us[i]?=some u/\RelV x u
 | _,_,_,_,.nil,e=>by simp at e
 | _,_,0,_,.cons r _,e=>by simp at e;subst e;exact⟨_,rfl,r⟩
 | _,_,i+1,x,.cons _ t,e=>by
  obtain ⟨u,h1,h2⟩:=Vals.get (i:=i) (x:=x) t (by simpa using e)
  exact⟨u,by simpa using h1,h2⟩
theorem Vals.set(r:RelV x u):∀ {xs:List V} {us:List Value} (i:Nat),Vals xs us->Vals (xs.set i x) (us.set i u)
 | _,_,_,.nil=>.nil
 | _,_,0,.cons _ t=>.cons r t
 | _,_,i+1,.cons q t=>.cons q (Vals.set r i t)
theorem Vals.append:∀ {xs ys:List V} {us ws:List Value},Vals xs us->Vals ys ws->Vals (xs++ys) (us++ws)
 | _,_,_,_,.nil,s=>s
 | _,_,_,_,.cons r t,s=>.cons r (Vals.append t s)
theorem Vals.take:∀ {xs:List V} {us:List Value} (n:Nat),Vals xs us->Vals (xs.take n) (us.take n)
 | _,_,0,_=>.nil
 | _,_,_+1,.nil=>.nil
 | _,_,n+1,.cons r t=>.cons r (Vals.take n t)
theorem Vals.drop:∀ {xs:List V} {us:List Value} (n:Nat),Vals xs us->Vals (xs.drop n) (us.drop n)
 | _,_,0,r=>r
 | _,_,_+1,.nil=>.nil
 | _,_,n+1,.cons _ t=>Vals.drop n t
def lQ:Option V->Option Value->Prop
 | some v,some u=>RelV v u
 | none,none=>True
 | _,_=>False
def KV{κ:Type}:List (κ×V)->List (κ×Value)->Prop:=Paired fun (p:κ×V) (q:κ×Value)=>p.1=q.1/\RelV p.2 q.2
def kV:Key->V
 | .inl i=>.int i
 | .inr x=>.str x
inductive HO where
 /-- a list -/
 | lst (xs:List V)
 /-- a tuple (never changes) -/
 | tup (xs:List V)
 /-- a dict TJ keys are ints and texts;one TJ keys are tuples of ints and texts (SW empty one is both) -/
 | dK (fv:List (Key×V))|dT (fv:List (List Key×V))
 /-- a set of ints: its members,its size -/
 | set (S:Int->Bool) (n:Nat)
 /-- an instance of SW class at C,its dict at dx,its attributes -/
 | ins (C dx:Addr) (fs:List (Str×V))
 /-- SW dict of SW instance at x -/
 | own (x:Addr)
 /-- SW dict of an exception -/
 | xd (fs:List (Str×V))
 /-- a bound method,f of x -/
 | met (f x:Addr)
 /-- a range object lo,lo+1,.. below hi -/
 | W0 (lo hi:Int)
 /-- a TK that is known to SW object (SW X2;a dict while a loop walks it): read,never written while it is so -/
 | wb (o:Obj) (u:HO)
 /-- a code TL table -/
 | sR (ps:Array Value)
 /-- any other TK,by what is true of its one object (a def of one's own: SetO a S n:=HO.ext fun h=>..) -/
 | ext (φ:Heap->Prop)
abbrev Hp:=Addr->Option HO
def upd(H:Hp)(a:Addr)(o:HO):Hp:=fun b=>if b=a then some o else H b
theorem aw:upd H a o a=some o:=by unfold upd;rw [if_pos rfl]
theorem ay(h:b≠a):upd H a o b=H b:=by unfold upd;rw [if_neg h]
theorem aJ{H:Hp}{a b:Addr}{o:HO}(h:H a=some o)(h':H b=none):a≠b:=by
 intro e;subst e;rw [h] at h';cases h'
section
variable (P:Program)(w:World)
def cv(H:Hp)(h:Heap)(a:Addr):HO->Prop
 | .lst xs=>xs.length<=sizeLine/\∃ (its:List Value) (n:Nat),Vals xs its/\h.get? a=some { cls:=.type "list",data:=.seq its.toArray n }
 | .tup xs=>xs.length<=sizeLine/\∃ its:List Value,Vals xs its/\IsTup h a its.toArray
 | .dK fv=>fv.length<=sizeLine/\(a == sysModules)=false/\∃ vs,KV fv vs/\h.DictOf (kl P w) a vs
 | .dT fv=>fv.length<=sizeLine/\(a == sysModules)=false/\∃ xs:List (List Key×Addr×Value),
   Paired (fun (p:List Key×V) (q:List Key×Addr×Value)=>p.1=q.1/\H q.2.1=some (.tup (p.1.map kV))/\RelV p.2 q.2.2) fv xs /\
   ∃ o es ep,h.get? a=some o/\o.ExactDict/\o.data=.dict es ep/\es.toList=xs.map (entryOfKey (tupleKind (kl P w)))/\(xs.map (·.1)).Nodup
 | .set S n=>h.SetOf (intKind P w) a S n
 | .ins C dx fs=>H dx=some (.own a)/\fs.length<=1000/\dx≠a/\h.get? a=some (instObj C dx) /\
   ∃ mA,h.Ns1 dx mA/\(∀ f,lQ (fs.lookup f) (mA f))/\PySem.Within mA (fs.map (·.1))
 | .own _=>∃ o,h.get? a=some o
 | .xd fs=>∃ mA,h.Ns1 a mA/\∀ f,lQ (fs.lookup f) (mA f)
 | .W0 lo hi=>∃ t u v,h.get? a=some { cls:=.type "range",data:=.fields #[.int lo t,.int hi u,.int 1 v] }
 | .wb o u=>h.get? a=some o/\cv H h a u
 | .sR ps=>h.get? a=some { cls:=.none,data:=.fields ps }
 | .met f x=>h.get? a=some (methodObj (.ref f) (.ref x))
 | .ext φ=>φ h/\(∃ o,h.get? a=some o)/\∀ h1 h2:Heap,φ h1->(∀ o,h1.get? a=some o->h2.get? a=some o)->φ h2
def gO(H:Hp)(h:Heap):Prop:=∀ a o,H a=some o->cv P w H h a o
end
section
variable {P:Program}{w:World}{H H':Hp}{h h':Heap}{a:Addr}{o:HO}
theorem cv.lt(x:cv P w H h a o):a<h.objs.size:=by
 cases o with
 | lst xs=>obtain ⟨_,_,_,_,e⟩:=x;exact aae e
 | tup xs=>obtain ⟨_,_,_,p⟩:=x;exact p.lt
 | dK fv=>obtain ⟨_,_,_,_,o,_,_,e,_⟩:=x;exact aae e
 | dT fv=>obtain ⟨_,_,_,_,o,_,_,e,_⟩:=x;exact aae e
 | set S n=>obtain ⟨o,_,_,_,e,_⟩:=x;exact aae e
 | ins C dx fs=>obtain ⟨_,_,_,e,_⟩:=x;exact aae e
 | own y=>obtain ⟨_,e⟩:=x;exact aae e
 | xd fs=>obtain ⟨_,⟨_,_,_,e,_⟩,_⟩:=x;exact aae e
 | W0 lo hi=>obtain ⟨_,_,_,e⟩:=x;exact aae e
 | wb ob u=>obtain ⟨e,_⟩:=x;exact aae e
 | sR ps=>exact aae (show h.get? a=some _ from x)
 | met f y=>exact aae (show h.get? a=some _ from x)
 | ext φ=>obtain ⟨_,⟨_,e⟩,_⟩:=x;exact aae e
theorem Paired.TM{α β:Type}{F G:α->β->Prop}:∀ {l₁:List α} {l₂:List β},Paired F l₁ l₂->(∀ a b,F a b->G a b)->Paired G l₁ l₂
 | _,_,.nil,_=>.nil
 | _,_,.cons r t,f=>.cons (f _ _ r) (Paired.TM t f)
theorem cv.rB(x:cv P w H h a o)(k:∀ b u,(b=a\/H b=some (.own a))->h.get? b=some u->h'.get? b=some u)(ho:∀ b,H b=some (.own a)->H' b=some (.own a))(ht:∀ b xs,H b=some (.tup xs)->H' b=some (.tup xs)):cv P w H' h' a o:=by
 induction o with
 | lst xs=>obtain ⟨z,its,n,r,e⟩:=x;exact⟨z,its,n,r,k _ _ (.inl rfl) e⟩
 | tup xs=>obtain ⟨z,its,r,ob,e,c⟩:=x;exact⟨z,its,r,ob,k _ _ (.inl rfl) e,c⟩
 | dK fv=>obtain ⟨z,y,vs,r,ob,es,ep,e,c⟩:=x;exact⟨z,y,vs,r,ob,es,ep,k _ _ (.inl rfl) e,c⟩
 | dT fv =>
  obtain ⟨z,y,xs,r,ob,es,ep,e,c⟩:=x
  exact⟨z,y,xs,Paired.TM r fun p q z=>⟨z.1,ht _ _ z.2.1,z.2.2⟩,ob,es,ep,k _ _ (.inl rfl) e,c⟩
 | set S n=>obtain ⟨ob,es,ep,t,e,c⟩:=x;exact⟨ob,es,ep,t,k _ _ (.inl rfl) e,c⟩
 | ins C dx fs =>
  obtain ⟨d,z,ne,e,mA,⟨od,es,ep,e2,c⟩,r⟩:=x
  exact⟨ho _ d,z,ne,k _ _ (.inl rfl) e,mA,⟨od,es,ep,k _ _ (.inr d) e2,c⟩,r⟩
 | own y=>obtain ⟨ob,e⟩:=x;exact⟨ob,k _ _ (.inl rfl) e⟩
 | xd fs=>obtain ⟨mA,⟨od,es,ep,e,c⟩,r⟩:=x;exact⟨mA,⟨od,es,ep,k _ _ (.inl rfl) e,c⟩,r⟩
 | W0 lo hi=>obtain ⟨t,u,v,e⟩:=x;exact⟨t,u,v,k _ _ (.inl rfl) e⟩
 | wb ob u ih=>obtain ⟨e,q⟩:=x;exact⟨k _ _ (.inl rfl) e,ih q⟩
 | sR ps =>
  have e:h.get? a=some { cls:=.none,data:=.fields ps }:=x
  show h'.get? a=some { cls:=.none,data:=.fields ps }
  exact k a _ (.inl rfl) e
 | met f y =>
  have e:h.get? a=some (methodObj (.ref f) (.ref y)):=x
  show h'.get? a=some (methodObj (.ref f) (.ref y))
  exact k a _ (.inl rfl) e
 | ext φ=>obtain ⟨p,⟨o,e⟩,st⟩:=x;exact⟨st _ _ p fun o q=>k _ _ (.inl rfl) q,⟨o,k _ _ (.inl rfl) e⟩,st⟩
theorem gO.lt(x:gO P w H h)(e:H a=some o):a<h.objs.size:=(x a o e).lt
theorem gO.fresh(x:gO P w H h)(e:h.objs.size<=a):H a=none:=by
 cases q:H a with
 | none=>rfl
 | some u=>exact absurd (Nat.lt_of_lt_of_le (x.lt q) e) (Nat.lt_irrefl _)
theorem gO.kept(x:gO P w H h)(k:∀ b u,h.get? b=some u->h'.get? b=some u):gO P w H h':=fun a o e =>
 (x a o e).rB (fun b u _ q=>k b u q) (fun _ q=>q) fun _ _ q=>q
theorem gO.laid(x:gO P w H h)(k:∀ b u,h.get? b=some u->h'.get? b=some u)(hp:h.objs.size<=a)(new:cv P w (upd H a o) h' a o):gO P w (upd H a o) h':=fun b u e=>by
 have hn:=x.fresh hp
 by_cases hb:b=a
 ·subst hb;rw [aw] at e;cases e;exact new
 ·rw [ay hb] at e
  exact (x b u e).rB (fun c v _ q=>k c v q) (fun c q=>by rw [ay (aJ q hn)];exact q) fun c xs q=>by rw [ay (aJ q hn)];exact q
end
def Rd(H:Hp)(a:Addr)(u:HO):Prop:=H a=some u\/∃ o,H a=some (.wb o u)
theorem Rd.ok(r:Rd H a u)(x:gO P w H h):cv P w H h a u:=by
 rcases r with r|⟨o,r⟩
 ·exact x a u r
 ·obtain ⟨_,q⟩:=x a _ r
  exact q
def W2:Option HO->Prop
 | some (.lst _)=>True
 | some (.dK _)=>True
 | some (.dT _)=>True
 | some (.set _ _)=>True
 | some (.ins _ _ _)=>True
 | some (.ext _)=>True
 | _=>False
section
variable {P:Program}{w:World}{H:Hp}{h h':Heap}{x e:Addr}{o':HO}
theorem gO.write(ok:gO P w H h)(mu:W2 (H x))(he:e=x\/H e=some (.own x))(k:∀ b u,b≠e->h.get? b=some u->h'.get? b=some u)(SX:∃ u,h'.get? e=some u)(new:cv P w (upd H x o') h' x o'):gO P w (upd H x o') h':=fun b u q=>by
 have TN:∀ c y,H c=some (.own y)->c≠x:=fun c y r z=>by subst z;rw [r] at mu;exact mu
 have X3:∀ c xs,H c=some (.tup xs)->c≠x:=fun c xs r z=>by subst z;rw [r] at mu;exact mu
 by_cases hb:b=x
 ·subst hb;rw [aw] at q;cases q;exact new
 ·rw [ay hb] at q
  by_cases Ah:b=e
  ·have q':H b=some (.own x):=by
    rcases he with z|z
    ·exact absurd (Ah.trans z) hb
    ·rw [Ah];exact z
   rw [q] at q';cases q'
   obtain ⟨v,hv⟩:=SX
   exact⟨v,by rw [Ah];exact hv⟩
  ·refine (ok b u q).rB (fun c v hc r=>k c v ?_ r) (fun c r=>by rw [ay (TN c b r)];exact r) fun c xs r=>by rw [ay (X3 c xs r)];exact r
   rcases hc with rfl|hc
   ·exact Ah
   ·rintro rfl
    rcases he with z|z
    ·exact TN c b hc z
    ·rw [hc] at z;cases z;exact hb rfl
end
structure Un(fs ex:List Addr)(H H':Hp)(h h':Heap):Prop where
 keep:∀ b o,h.get? b=some o->H b=none->b∉fs->b∉ex->h'.get? b=some o
 slot:∀ b o,h.get? b=some o->H b=none->b∈fs->b∉ex->∃ sl,h'.get? b=some { o with slots:=sl }
 free:∀ b o,h.get? b=some o->H b=none->b∉ex->H' b=none
 there:∀ b o,h.get? b=some o->b∉ex->∃ o',h'.get? b=some o'
 lR:∀ b xs,H b=some (.tup xs)->H' b=some (.tup xs)
 k8:∀ b o u,H b=some (.wb o u)->H' b=some (.wb o u)
 k9:∀ b ps,H b=some (.sR ps)->∃ more,H' b=some (.sR (ps++more))
section
variable {fs X4 ex ex':List Addr}{H H1 H2:Hp}{h h1 h2 h':Heap}{a x e:Addr}{o:HO}
theorem Un.any(u:Un fs ex H H1 h h1)(q:h.get? b=some ob)(n:H b=none)(hx:b∉ex):∃ sl,h1.get? b=some { ob with slots:=sl }:=by
 by_cases hb:b∈fs
 ·exact u.slot b ob q n hb hx
 ·exact⟨ob.slots,u.keep b ob q n hb hx⟩
theorem Un.kept(k:∀ b u,h.get? b=some u->h'.get? b=some u):Un fs ex H H h h' :=
 ⟨fun b ob q _ _ _=>k b ob q,fun b ob q _ _ _=>⟨ob.slots,k b ob q⟩,fun _ _ _ n _=>n,fun b ob q _=>⟨ob,k b ob q⟩,fun _ _ q=>q,fun _ _ _ q=>q,fun _ ps q=>⟨#[],by rw [q];simp⟩⟩
theorem Un.refl:Un fs ex H H h h:=Un.kept fun _ _ q=>q
theorem Un.laid(k:∀ b u,h.get? b=some u->h'.get? b=some u)(hp:h.objs.size<=a)(hn:H a=none):Un fs ex H (upd H a o) h h' where
 keep:=fun b u q _ _ _=>k b u q
 slot:=fun b u q _ _ _=>⟨u.slots,k b u q⟩
 free:=fun b u q n _=>by rw [ay (aa1 (Nat.lt_of_lt_of_le (aae q) hp))];exact n
 there:=fun b u q _=>⟨u,k b u q⟩
 lR:=fun b xs q=>by rw [ay (aJ q hn)];exact q
 k8:=fun b u xs q=>by rw [ay (aJ q hn)];exact q
 k9:=fun b ps q=>⟨#[],by rw [ay (aJ q hn),q];simp⟩
theorem Un.write(mu:W2 (H x))(he:e=x\/H e=some (.own x))(k:∀ b u,b≠e->h.get? b=some u->h'.get? b=some u)(SX:∃ u,h'.get? e=some u):Un fs ex H (upd H x o) h h':=by
 have hx:∀ b,H b=none->b≠x:=fun b n z=>by subst z;rw [n] at mu;exact mu
 have hb:∀ b,H b=none->b≠e:=fun b n z=>by
  subst z
  rcases he with r|r
  ·exact hx b n r
  ·rw [n] at r;cases r
 have hm:∀ b u,H b=some u->¬ W2 (some u)->b≠x:=fun b u q nm z=>by subst z;rw [q] at mu;exact nm mu
 refine⟨fun b u q n _ _=>k b u (hb b n) q,fun b u q n _ _=>⟨u.slots,k b u (hb b n) q⟩,fun b u q n _=>by rw [ay (hx b n)];exact n,fun b u q _=>?_,
  fun b xs q=>by rw [ay (hm b _ q fun z=>z)];exact q,fun b u xs q=>by rw [ay (hm b _ q fun z=>z)];exact q,fun b ps q=>⟨#[],by rw [ay (hm b _ q fun z=>z),q];simp⟩⟩
 by_cases Ah:b=e
 ·subst Ah;exact SX
 ·exact⟨u,k b u Ah q⟩
end
def W3(h:Heap)(H:Hp):List Addr:=(List.range h.objs.size).filter fun a=>(H a).isSome
def rC(h:Heap)(H:Hp):Heap:=PySem.W.hideAll h (W3 h H)
theorem Fs(h:Heap)(H:Hp):(rC h H).objs.size=h.objs.size:=PySem.W.hideAll_size _ _
theorem HK(e:h.get? b=some o)(n:H b=none):(rC h H).get? b=some o :=
 PySem.W.hideAll_get _ e fun hm=>by
  have q:(H b).isSome=true:=(aaE.mp hm).2
  rw [n] at q;simp at q
theorem LW(e:(rC h H).get? b=some o):h.get? b=some o/\H b=none:=by
 have e':h.get? b=some o:=PySem.W.of_hideAll (W3 h H) e
 refine⟨e',?_⟩
 cases q:H b with
 | none=>rfl
 | some x =>
  have hm:b∈W3 h H:=aaE.mpr ⟨aaM.mpr (aae e'),by simp [q]⟩
  have z:(rC h H).get? b=none:=PySem.W.hideAll_none (W3 h H) hm
  rw [z] at e;cases e
def LX(g h:Heap)(L:Addr):List (Addr×Obj):=(List.range h.objs.size).filterMap fun a=>if a=L\/(g.get? a).isSome=true then none else (h.get? a).map fun o=>(a,o)
def rest(g h:Heap)(L d:Addr):List (Addr×Obj):=(LX g h L).filter fun p=>decide (p.1≠d)
structure Mod(K:Frag)(mg:Str->Option Value)(base:Heap):Prop where
 LY:K.In base
 glob:base.Ns mainGlobals mg
 blt:∃ mb,base.Ns builtinsNs mb/\∀ x:Str,x≠"__name__"->mb x=bootBuiltins x
 nolimit:base.NoLimit
structure Cx where
 prog:Program
 w:World
 K:Frag
 mg:Str->Option Value
 base:Heap
 A:Around
 N:List Str
 s₀:Shared
 H₀:Hp
 env:Env
 outer:List Env
 stack:List Env
 ex:List Addr
 fn:Str->Bool
 calm:Bool
 pn:List (Addr×Obj)
 xe:Value->Shared->Prop
def sx(l:List Env):List Addr:=l.filterMap (·.frame)
abbrev Cx.fs(X:Cx):List Addr:=sx X.outer
def SY(sc:Scope)(x:Str):Prop:=sc.names.lookup x=some .local\/sc.names.lookup x=some .cell\/sc.names.lookup x=some .free
def Loc(sc:Scope)(x:Str):Prop:=sc.names.lookup x=some .local\/sc.names.lookup x=some .cell
def Look(env:Env)(h:Heap)(m:Str->Option Value)(x:Str)(u:Value):Prop :=
 (env.kindOf x=some .local/\m x=some u)\/((env.kindOf x=some .cell\/env.kindOf x=some .free)/\∃ c,env.cells.lookup x=some c/\h.IsCell c (some u))
structure Cx.Ok(X:Cx):Prop where
 mod:Mod X.K X.mg X.base
 kind:X.env.scope.kind=.function
 glob:X.env.globals=mainGlobals
 blt:X.env.builtins=builtinsNs
 above:X.s₀.heap.objs.size<=X.env.locals
 inj:∀ x y c,X.env.cells.lookup x=some c->X.env.cells.lookup y=some c->x=y
 has:∀ x,(X.env.kindOf x=some .cell\/X.env.kindOf x=some .free)->∃ c,X.env.cells.lookup x=some c
 LH:∀ x c,X.fn x=true->X.env.cells.lookup x=some c->X.s₀.heap.objs.size<=c
 hd:X.calm=true->X.A.handled=none
 frames:X.A.frames=some X.stack
 LZ:X.stack=X.outer\/(X.stack=X.env::X.outer/\X.env.frame=some X.env.locals)
 Po:∀ b∈X.ex,b≠X.env.locals/\∀ x c,X.env.cells.lookup x=some c->c≠b
 bs:∀ b o,X.base.get? b=some o->X.s₀.heap.get? b=some o/\X.H₀ b=none
 Ci:X.base.objs.size<=X.s₀.heap.objs.size
 wc:∀ b o,X.base.get? b=some o->b∉X.ex
 ya:∀ b∈X.ex,b∉X.fs
 iE:X.s₀.heap.FunFrames X.base X.outer
 Ft:∀ b∈X.fs,X.H₀ b=none
structure Inv(X:Cx)(pins:List (Addr×Obj))(σ:List (Option V))(H:Hp)(s:Shared):Prop where
 ok:X.Ok
 os:s.os=X.s₀.os
 bare:AllBare s.gens
 base:Un X.fs X.ex X.H₀ H X.s₀.heap s.heap
 loc:∃ m,s.heap.Ns X.env.locals m/\∀ (i:Nat) (x:Str) (v:V),X.N[i]?=some x->σ[i]?=some (some v)->SY X.env.scope x->∃ u,RelV v u/\Look X.env s.heap m x u
 cell:∀ x c,X.env.cells.lookup x=some c->∃ v,s.heap.IsCell c v
 free:H X.env.locals=none
 dI:∀ x c,X.env.cells.lookup x=some c->H c=none
 pin:∀ p∈X.pn++pins,s.heap.get? p.1=some p.2/\H p.1=none/\p.1≠X.env.locals/\p.1∉X.fs/\∀ v,p.2.data≠.cell v
 bh:gO X.prog X.w H s.heap
 len:σ.length=X.N.length
section
variable {X:Cx}{pins:List (Addr×Obj)}{σ:List (Option V)}{H H':Hp}{s:Shared}{h':Heap}
theorem Cx.Ok.X5(ok:X.Ok)(e:X.base.get? b=some o):b∉X.fs:=fun hb=>by
 have:=(ok.iE.mem hb).1
 rw [e] at this;cases this
theorem Inv.bs(I:Inv X pins σ H s):∀ b o,X.base.get? b=some o->s.heap.get? b=some o/\H b=none:=fun b o e =>
 ⟨I.base.keep b o (I.ok.bs b o e).1 (I.ok.bs b o e).2 (I.ok.X5 e) (I.ok.wc b o e),I.base.free b o (I.ok.bs b o e).1 (I.ok.bs b o e).2 (I.ok.wc b o e)⟩
theorem Inv.bk(I:Inv X pins σ H s):∀ b o,X.base.get? b=some o->s.heap.get? b=some o:=fun b o e=>(I.bs b o e).1
theorem Inv.mod(I:Inv X pins σ H s):Mod X.K X.mg X.base:=I.ok.mod
theorem Inv.jq(I:Inv X pins σ H s):X.K.In s.heap:=I.ok.mod.LY.keeps I.bk
theorem Inv.nolimit(I:Inv X pins σ H s):s.heap.NoLimit:=I.ok.mod.nolimit.keeps I.bk
theorem Inv.lt(I:Inv X pins σ H s):X.env.locals<s.heap.objs.size:=let ⟨_,hn,_⟩:=I.loc;hn.lt
theorem Inv.sz(I:Inv X pins σ H s):X.s₀.heap.objs.size<=s.heap.objs.size:=aag I.ok.above (aai I.lt)
theorem Inv.X6(I:Inv X pins σ H s)(h:s.heap.objs.size<=a):a∉X.fs:=fun hb=>by
 obtain ⟨_,o,ho,_⟩:=I.ok.iE.mem hb
 exact absurd (Nat.lt_of_lt_of_le (aae ho) (aag I.sz h)) (Nat.lt_irrefl _)
theorem Inv.Fu(I:Inv X pins σ H s):∀ x c,X.env.cells.lookup x=some c->c≠X.env.locals:=fun x c e z=>by
 obtain ⟨v,o,ho,hd⟩:=I.cell x c e
 obtain ⟨m,⟨o',es,ep,L6,HL,_⟩,_⟩:=I.loc
 rw [z,L6] at ho;cases ho;rw [HL] at hd;cases hd
theorem Inv.iE(I:Inv X pins σ H s):s.heap.FunFrames X.base X.outer:=by
 have all:∀ (l:List Env),(∀ b∈sx l,b∈X.fs)->X.s₀.heap.FunFrames X.base l->s.heap.FunFrames X.base l:=by
  intro l
  induction l with
  | nil=>intro _ _;trivial
  | cons env r ih =>
   intro hs hl
   obtain ⟨hk,⟨L,o,hf,hn,ho,hd⟩,hr⟩:=hl
   have hL:L∈X.fs:=hs L (by unfold sx;rw [List.filterMap_cons,hf];exact mem_cons_self)
   obtain ⟨sl,e⟩:=I.base.slot L o ho (I.ok.Ft L hL) hL fun z=>I.ok.ya L z hL
   exact⟨hk,⟨L,_,hf,hn,e,hd⟩,ih (fun b hb=>hs b (by unfold sx;rw [List.filterMap_cons,hf];exact aaB _ hb)) hr⟩
 exact all X.outer (fun _ hb=>hb) I.ok.iE
theorem Inv.stack(I:Inv X pins σ H s):s.heap.FunFrames X.base X.stack:=by
 rcases I.ok.LZ with e|⟨e,hf⟩
 ·rw [e];exact I.iE
 ·rw [e]
  obtain ⟨m,hn,_⟩:=I.loc
  refine .cons (by rw [I.ok.kind];decide) hf hn ?_ I.iE
  exact Heap.get?_none_of_le (aag I.ok.Ci I.ok.above)
theorem Inv.oA(I:Inv X pins σ H s):∀ b∈sx X.stack,b∈X.env.locals::X.fs:=fun b hb=>by
 rcases I.ok.LZ with e|⟨e,hf⟩
 ·rw [e] at hb;exact aaB _ hb
 ·rw [e] at hb
  unfold sx at hb
  rw [List.filterMap_cons,hf] at hb
  exact hb
theorem Inv.km(I:Inv X pins σ H s):∀ b∈sx X.stack,H b=none:=fun b hb=>by
 rcases aaC.mp (I.oA b hb) with e|hb
 ·rw [e];exact I.free
 ·obtain ⟨_,o,ho,_⟩:=I.ok.iE.mem hb
  exact I.base.free b o ho (I.ok.Ft b hb) fun z=>I.ok.ya b z hb
theorem Inv.step{g':Array GenState}{t':Nat}{d':Drawn}{ch:List Addr}(I:Inv X pins σ H s)
  (Ac:∀ b∈ch,(b∈X.ex\/X.s₀.heap.objs.size<=b)/\b≠X.env.locals/\(∀ x c,X.env.cells.lookup x=some c->c≠b)/\∀ p∈X.pn++pins,p.1≠b)
  (keep:∀ b o,b≠X.env.locals->b∉X.fs->b∉ch->s.heap.get? b=some o->H b=none->h'.get? b=some o)
  (slot:∀ b o,b≠X.env.locals->b∈X.fs->b∉ch->s.heap.get? b=some o->H b=none->∃ sl,h'.get? b=some { o with slots:=sl }) (free:∀ b o,b∉ch->s.heap.get? b=some o->H b=none->H' b=none)
  (there:∀ b o,b∉ch->s.heap.get? b=some o->∃ o',h'.get? b=some o')
  (lR:∀ b xs,H b=some (.tup xs)->H' b=some (.tup xs)) (k8:∀ b o u,H b=some (.wb o u)->H' b=some (.wb o u)) (k9:∀ b ps,H b=some (.sR ps)->∃ more,H' b=some (.sR (ps++more)))
  (ns:∀ m,s.heap.Ns X.env.locals m->h'.Ns X.env.locals m) (bh:gO X.prog X.w H' h') (hg:AllBare g') :
  Inv X pins σ H' { s with heap:=h',gens:=g',drawn:=d',toks:=t' }:=by
 have L7:∀ b o,X.s₀.heap.get? b=some o->b≠X.env.locals:=fun b o e=>aa1 (Nat.lt_of_lt_of_le (aae e) I.ok.above)
 have L8:∀ b o,X.s₀.heap.get? b=some o->b∉X.ex->b∉ch:=fun b o e hx hb=>by
  rcases (Ac b hb).1 with z|z
  ·exact hx z
  ·exact absurd (Nat.lt_of_lt_of_le (aae e) z) (Nat.lt_irrefl _)
 have cellK:∀ x c,X.env.cells.lookup x=some c->∀ v,s.heap.IsCell c v->h'.IsCell c v:=fun x c e v ⟨o,ho,hd⟩=>by
  have HM:c∉ch:=fun z=>(Ac c z).2.2.1 x c e rfl
  by_cases hc:c∈X.fs
  ·obtain ⟨sl,q⟩:=slot c o (I.Fu x c e) hc HM ho (I.dI x c e)
   exact⟨_,q,hd⟩
  ·exact⟨o,keep c o (I.Fu x c e) hc HM ho (I.dI x c e),hd⟩
 refine⟨I.ok,I.os,hg,⟨fun b o e n hb hx=>?_,fun b o e n hb hx=>?_,fun b o e n hx=>?_,fun b o e hx=>?_,fun b xs e=>lR b xs (I.base.lR b xs e),fun b o xs e=>k8 b o xs (I.base.k8 b o xs e),fun b ps e=>?_⟩,?_,fun x c e=>?_,?_,fun x c e=>?_,fun p hp=>?_,bh,I.len⟩
 ·exact keep b o (L7 b o e) hb (L8 b o e hx) (I.base.keep b o e n hb hx) (I.base.free b o e n hx)
 ·obtain ⟨sl,e1⟩:=I.base.slot b o e n hb hx
  obtain ⟨L9,e2⟩:=slot b _ (L7 b o e) hb (L8 b o e hx) e1 (I.base.free b o e n hx)
  exact⟨L9,e2⟩
 ·obtain ⟨o',e1⟩:=I.base.there b o e hx
  exact free b o' (L8 b o e hx) e1 (I.base.free b o e n hx)
 ·obtain ⟨o',e1⟩:=I.base.there b o e hx
  exact there b o' (L8 b o e hx) e1
 ·obtain ⟨m1,e1⟩:=I.base.k9 b ps e
  obtain ⟨m2,e2⟩:=k9 b _ e1
  exact⟨m1++m2,by rw [e2,Array.append_assoc]⟩
 ·obtain ⟨m,hn,hl⟩:=I.loc
  refine⟨m,ns m hn,fun i x v e1 e2 e3=>?_⟩
  obtain ⟨u,r,l⟩:=hl i x v e1 e2 e3
  refine⟨u,r,?_⟩
  rcases l with l|⟨k,c,e,z⟩
  ·exact .inl l
  ·exact .inr ⟨k,c,e,cellK x c e _ z⟩
 ·obtain ⟨v,z⟩:=I.cell x c e
  exact⟨v,cellK x c e v z⟩
 ·obtain ⟨m,⟨o,_,_,ho,_⟩,_⟩:=I.loc
  exact free _ o (fun z=>(Ac _ z).2.1 rfl) ho I.free
 ·obtain ⟨v,o,ho,hd⟩:=I.cell x c e
  exact free c o (fun z=>(Ac c z).2.2.1 x c e rfl) ho (I.dI x c e)
 ·obtain ⟨e,n,ne,nf,d⟩:=I.pin p hp
  have HM:p.1∉ch:=fun z=>(Ac p.1 z).2.2.2 p hp rfl
  exact⟨keep p.1 p.2 ne nf HM e n,free p.1 p.2 HM e n,ne,nf,d⟩
theorem Inv.un{t':Nat}(I:Inv X pins σ H s)(u:Un X.fs [] H H' s.heap h')(bh:gO X.prog X.w H' h'):Inv X pins σ H' { s with heap:=h',toks:=t' }:=by
 obtain ⟨m,⟨o,es,ep,ho,r⟩,_⟩:=id I.loc
 obtain ⟨sl,hL⟩:=u.any ho I.free (by simp)
 exact I.step (g':=s.gens) (d':=s.drawn) (ch:=[]) (fun _ z=>nomatch z) (fun b o _ hb _ e n=>u.keep b o e n hb (by simp)) (fun b o _ hb _ e n=>u.slot b o e n hb (by simp)) (fun b o _ e n=>u.free b o e n (by simp)) (fun b o _ e=>u.there b o e (by simp)) u.lR u.k8 u.k9 (fun m' hm=>by
  obtain ⟨o',X7,X8,L6,r'⟩:=hm
  rw [ho] at L6;cases L6
  exact⟨_,X7,X8,hL,r'⟩) bh I.bare
theorem Inv.call{t':Nat}(I:Inv X pins σ H s)(u:Un (sx X.stack) ch H H' s.heap h')(bh:gO X.prog X.w H' h')(hg:AllBare g')(Ac:∀ b∈ch,(b∈X.ex\/X.s₀.heap.objs.size<=b)/\b≠X.env.locals/\(∀ x c,X.env.cells.lookup x=some c->c≠b)/\∀ p∈X.pn++pins,p.1≠b):
  Inv X pins σ H' { s with heap:=h',gens:=g',drawn:=d',toks:=t' }:=by
 obtain ⟨m,⟨o,es,ep,ho,r⟩,_⟩:=id I.loc
 obtain ⟨sl,hL⟩:=u.any ho I.free fun z=>(Ac _ z).2.1 rfl
 exact I.step (ch:=ch) Ac (fun b o hL hb hc e n=>u.keep b o e n (fun z=>(aaC.mp (I.oA b z)).elim hL hb) hc) (fun b o _ _ hc e n=>u.any e n hc) (fun b o hc e n=>u.free b o e n hc) (fun b o hc e=>u.there b o e hc) u.lR u.k8 u.k9 (fun m' hm=>by
  obtain ⟨o',X7,X8,L6,r'⟩:=hm
  rw [ho] at L6;cases L6
  exact⟨_,X7,X8,hL,r'⟩) bh hg
theorem Inv.turned{t':Nat}{it:Addr}(I:Inv X pins σ H s)(k:∀ b o,b≠it->s.heap.get? b=some o->h'.get? b=some o)(hn:H it=none)(hL:it≠X.env.locals)
  (h1:it∈X.ex\/X.s₀.heap.objs.size<=it) (h2:∀ x c,X.env.cells.lookup x=some c->c≠it) (h3:∀ p∈X.pn++pins,p.1≠it):Inv X pins σ H { s with heap:=h',toks:=t' }:=by
 have nit:∀ b u,H b=some u->b≠it:=fun b u e z=>by rw [z,hn] at e;cases e
 refine I.step (g':=s.gens) (d':=s.drawn) (ch:=[it]) (fun b hb=>?_) (fun b o _ _ hc e _=>k b o (fun z=>hc (by simp [z])) e) (fun b o _ _ hc e _=>⟨o.slots,k b o (fun z=>hc (by simp [z])) e⟩) (fun _ _ _ _ n=>n)
  (fun b o hc e=>⟨o,k b o (fun z=>hc (by simp [z])) e⟩) (fun _ _ e=>e) (fun _ _ _ e=>e) (fun b ps e=>⟨#[],by rw [e];simp⟩) (fun m hm=>?_) (fun b u e=>?_) I.bare
 ·have e:b=it:=by simpa using hb
  subst e
  exact⟨h1,hL,h2,h3⟩
 ·obtain ⟨o,es,ep,ho,r⟩:=hm
  exact⟨o,es,ep,k _ o (Ne.symm hL) ho,r⟩
 ·refine (I.bh b u e).rB (fun c v hc q=>k c v ?_ q) (fun _ q=>q) fun _ _ q=>q
  rcases hc with z|z
  ·rw [z];exact nit b u e
  ·exact nit c _ z
theorem Inv.tok(I:Inv X pins σ H s)(t:Nat):Inv X pins σ H { s with toks:=t }:=I.un (h':=s.heap) (t':=t) Un.refl I.bh
theorem Inv.kept{t':Nat}(I:Inv X pins σ H s)(k:∀ b u,s.heap.get? b=some u->h'.get? b=some u):Inv X pins σ H { s with heap:=h',toks:=t' }:=I.un (Un.kept k) (I.bh.kept k)
theorem Inv.laid{t':Nat}(I:Inv X pins σ H s)(k:∀ b u,s.heap.get? b=some u->h'.get? b=some u)(hp:s.heap.objs.size<=a)(new:cv X.prog X.w (upd H a o) h' a o):
  Inv X pins σ (upd H a o) { s with heap:=h',toks:=t' }:=I.un (Un.laid k hp (I.bh.fresh hp)) (I.bh.laid k hp new)
theorem Inv.write{t':Nat}(I:Inv X pins σ H s)(mu:W2 (H x))(he:e=x\/H e=some (.own x))(k:∀ b u,b≠e->s.heap.get? b=some u->h'.get? b=some u)(SX:∃ u,h'.get? e=some u)(new:cv X.prog X.w (upd H x o) h' x o):Inv X pins σ (upd H x o) { s with heap:=h',toks:=t' }:=I.un (Un.write mu he k SX) (I.bh.write mu he k SX new)
theorem Inv.iF(I:Inv X pins σ H s)(h:∀ p∈fz,s.heap.get? p.1=some p.2/\H p.1=none/\p.1≠X.env.locals/\p.1∉X.fs/\∀ v,p.2.data≠.cell v):Inv X fz σ H s :=
 ⟨I.ok,I.os,I.bare,I.base,I.loc,I.cell,I.free,I.dI,fun p hp=>(aax.mp hp).elim (fun z=>I.pin p (aav _ z)) (h p),I.bh,I.len⟩
theorem sS{N:List Str}(hN:N.Nodup){i j:Nat}{x:Str}(a:N[i]?=some x)(b:N[j]?=some x):i=j:=by
 obtain ⟨h1,e1⟩:=aad.mp a
 obtain ⟨h2,e2⟩:=aad.mp b
 exact (List.getElem_inj hN).mp (e1.trans e2.symm)
theorem xj{i:Nat}(I:Inv X pins σ H s)(hN:X.N.Nodup)(hi:X.N[i]?=some x)(hx:Loc X.env.scope x)(r:RelV v u)(h:∀ s',Inv X pins (σ.set i (some v)) H s'->(∃ a,Heap.SameBut a s.heap s'.heap/\(a=X.env.locals\/X.env.cells.lookup x=some a))->Q () s')(hf:X.fn x=true\/X.env.scope.names.lookup x=some .local:=by first|exact .inl rfl|exact .inr rfl|assumption):wpAny M A (storeName X.env x u) Q E s:=by
 obtain ⟨m,hn,hl⟩:=id I.loc
 have Fv:(X.env.scope.kind == .class || (X.env.scope.kind == .module && X.env.locals != X.env.globals))=false:=by rw [I.ok.kind];rfl
 have W4:i<σ.length:=by rw [I.len];exact (aad.mp hi).1
 have Fu:=I.Fu
 have tracked:∀ {a:Addr} {h':Heap},(∃ o,s.heap.get? a=some o/\H a=none)->Heap.SameBut a s.heap h'->gO X.prog X.w H h':=fun {a h'} ha hs b ob e=>by
  obtain ⟨_,_,Oc⟩:=ha
  refine (I.bh b ob e).rB (fun c w' hc q=>(hs.2 c ?_).trans q) (fun _ q=>q) fun _ _ q=>q
  rintro rfl
  rcases hc with rfl|hc
  ·rw [Oc] at e;cases e
  ·rw [Oc] at hc;cases hc
 rcases hx with hk|hk
 ·refine wpAny_storeName_local hk hn (fun h' Ee hs=>?_) Fv
  obtain ⟨oL,_,_,W5,_⟩:=id hn
  refine h _ ⟨I.ok,I.os,I.bare,⟨fun b o e n hb hx=>?_,fun b o e n hb hx=>?_,I.base.free,fun b o e hx=>?_,I.base.lR,I.base.k8,I.base.k9⟩,⟨_,Ee,fun j y v' e1 e2 e3=>?_⟩,fun y c e=>?_,I.free,I.dI,fun p hp=>?_,tracked ⟨oL,W5,I.free⟩ hs,by simpa using I.len⟩ ⟨_,hs,.inl rfl⟩
  ·exact (hs.2 b (aa1 (Nat.lt_of_lt_of_le (aae e) I.ok.above))).trans (I.base.keep b o e n hb hx)
  ·obtain ⟨sl,e1⟩:=I.base.slot b o e n hb hx
   exact⟨sl,(hs.2 b (aa1 (Nat.lt_of_lt_of_le (aae e) I.ok.above))).trans e1⟩
  ·obtain ⟨o',e1⟩:=I.base.there b o e hx
   exact⟨o',(hs.2 b (aa1 (Nat.lt_of_lt_of_le (aae e) I.ok.above))).trans e1⟩
  ·by_cases hj:j=i
   ·subst hj
    rw [hi] at e1;cases e1
    rw [List.getElem?_set_self W4] at e2
    cases e2
    exact⟨u,r,.inl ⟨hk,by simp⟩⟩
   ·rw [List.getElem?_set_ne (Ne.symm hj)] at e2
    obtain ⟨u',r',q⟩:=hl j y v' e1 e2 e3
    refine⟨u',r',?_⟩
    rcases q with ⟨k,e⟩|⟨k,c,e,z⟩
    ·refine .inl ⟨k,?_⟩
     have:y≠x:=fun e=>hj (sS hN e1 (e ▸ hi))
     simp [this,e]
    ·exact .inr ⟨k,c,e,z.sameBut hs (Fu y c e)⟩
  ·obtain ⟨w',z⟩:=I.cell y c e
   exact⟨w',z.sameBut hs (Fu y c e)⟩
  ·obtain ⟨e,n,ne,nf,d⟩:=I.pin p hp
   exact⟨(hs.2 p.1 ne).trans e,n,ne,nf,d⟩
 ·have X9:X.fn x=true:=by
   rcases hf with z|z
   ·exact z
   ·rw [z] at hk;cases hk
  obtain ⟨c,hc⟩:=I.ok.has x (.inl hk)
  obtain ⟨w',z⟩:=I.cell x c hc
  refine wpAny_storeName_cell I.ok.kind hk hc z (fun h' LI hs=>?_)
  obtain ⟨oc,TQ,Ya⟩:=id z
  refine h { s with heap:=h' } ⟨I.ok,I.os,I.bare,⟨fun b o e n hb hx=>?_,fun b o e n hb hx=>?_,I.base.free,fun b o e hx=>?_,I.base.lR,I.base.k8,I.base.k9⟩,⟨m,hn.sameBut hs (Ne.symm (Fu x c hc)),fun j y v' e1 e2 e3=>?_⟩,fun y c' e=>?_,I.free,I.dI,fun p hp=>?_,tracked ⟨oc,TQ,I.dI x c hc⟩ hs,by simpa using I.len⟩ ⟨c,hs,.inr hc⟩
  ·exact (hs.2 b (aa1 (Nat.lt_of_lt_of_le (aae e) (I.ok.LH x c X9 hc)))).trans (I.base.keep b o e n hb hx)
  ·obtain ⟨sl,e1⟩:=I.base.slot b o e n hb hx
   exact⟨sl,(hs.2 b (aa1 (Nat.lt_of_lt_of_le (aae e) (I.ok.LH x c X9 hc)))).trans e1⟩
  ·obtain ⟨o',e1⟩:=I.base.there b o e hx
   exact⟨o',(hs.2 b (aa1 (Nat.lt_of_lt_of_le (aae e) (I.ok.LH x c X9 hc)))).trans e1⟩
  ·by_cases hj:j=i
   ·subst hj
    rw [hi] at e1;cases e1
    rw [List.getElem?_set_self W4] at e2
    cases e2
    exact⟨u,r,.inr ⟨.inl hk,c,hc,LI⟩⟩
   ·rw [List.getElem?_set_ne (Ne.symm hj)] at e2
    obtain ⟨u',r',q⟩:=hl j y v' e1 e2 e3
    refine⟨u',r',?_⟩
    rcases q with q|⟨k,c',e,z'⟩
    ·exact .inl q
    ·refine .inr ⟨k,c',e,z'.sameBut hs ?_⟩
     rintro rfl
     exact hj (sS hN e1 (I.ok.inj _ _ _ e hc ▸ hi))
  ·by_cases TR:c'=c
   ·subst TR;exact⟨_,LI⟩
   ·obtain ⟨w2,z2⟩:=I.cell y c' e
    exact⟨w2,z2.sameBut hs TR⟩
  ·obtain ⟨e,n,ne,nf,d⟩:=I.pin p hp
   refine⟨(hs.2 p.1 ?_).trans e,n,ne,nf,d⟩
   intro q
   rw [q,TQ] at e
   have q':oc=p.2:=aaj e
   exact d w' (by rw [<- q'];exact Ya)
theorem sU{i:Nat}(I:Inv X pins σ H s)(hN:X.N.Nodup)(hi:X.N[i]?=some x)(hx:Loc X.env.scope x)(r:RelV v u)(h:∀ s',Inv X pins (σ.set i (some v)) H s'->Q () s')(hf:X.fn x=true\/X.env.scope.names.lookup x=some .local:=by first|exact .inl rfl|exact .inr rfl|assumption):wpAny M A (storeName X.env x u) Q E s :=
 xj I hN hi hx r (fun s' I' _=>h s' I') hf
theorem Inv.HN(I:Inv X pins σ H s)(ho:s'.os=s.os)(u:Un (sx X.stack) ch H H' s.heap s'.heap)(bh:gO X.prog X.w H' s'.heap)(hg:AllBare s'.gens)(Ac:∀ b∈ch,(b∈X.ex\/X.s₀.heap.objs.size<=b)/\b≠X.env.locals/\(∀ x c,X.env.cells.lookup x=some c->c≠b)/\∀ p∈X.pn++pins,p.1≠b):Inv X pins σ H' s':=by
 obtain ⟨h',g',d',t',o'⟩:=s'
 have e:o'=s.os:=ho
 subst e
 exact I.call (g':=g') (t':=t') (d':=d') u bh hg Ac
end
abbrev XK:=Value->Option Addr->Hp->Prop
abbrev St:=List (Option V)
abbrev VK:=V->Hp->Prop
abbrev TE:=St->Hp->VK->Prop
abbrev TT:=St->Hp->(Bool->Hp->Prop)->Prop
abbrev TA:=St->Hp->(List V->Hp->Prop)->Prop
structure Ends where
 nx:St->Hp->Prop
 rt:VK
 bk:St->Hp->Prop:=fun _ _=>False
 ct:St->Hp->Prop:=fun _ _=>False
abbrev TS:=Ends->St->Hp->Prop
def EP(X:Cx)(pins:List (Addr×Obj))(σ:St)(Q:VK)(u:Value)(s':Shared):Prop:=∃ v H',Inv X pins σ H' s'/\RelV v u/\Q v H'
def TP(X:Cx)(pins:List (Addr×Obj))(σ:St)(Q:Bool->Hp->Prop)(b:Bool)(s':Shared):Prop:=∃ H',Inv X pins σ H' s'/\Q b H'
def AP(X:Cx)(pins:List (Addr×Obj))(σ:St)(Q:List V->Hp->Prop)(us:List Value)(s':Shared):Prop:=∃ vs H',Inv X pins σ H' s'/\Vals vs us/\Q vs H'
def SP(X:Cx)(pins:List (Addr×Obj))(D:Ends)(f:Flow)(s':Shared):Prop :=
 match f with
 | .next=>∃ σ' H',Inv X pins σ' H' s'/\D.nx σ' H'
 | .brk=>∃ σ' H',Inv X pins σ' H' s'/\D.bk σ' H'
 | .cont=>∃ σ' H',Inv X pins σ' H' s'/\D.ct σ' H'
 | .ret u=>∃ v σ' H',Inv X pins σ' H' s'/\RelV v u/\D.rt v H'
def PE(X:Cx)(e:Expr)(t:TE):Prop :=
 ∀ (pins:List (Addr×Obj)) (s:Shared) (σ:St) (H:Hp) (Q:VK),Inv X pins σ H s->t σ H Q->wpAny (model X.prog X.w) X.A (eval e X.env) (EP X pins σ Q) X.xe s
def PT(X:Cx)(e:Expr)(t:TT):Prop :=
 ∀ (pins:List (Addr×Obj)) (s:Shared) (σ:St) (H:Hp) (Q:Bool->Hp->Prop),Inv X pins σ H s->t σ H Q->wpAny (model X.prog X.w) X.A (isTrue e X.env (eval e X.env)) (TP X pins σ Q) X.xe s
def PW(X:Cx)(e:Expr)(t:TT):Prop :=
 ∀ (whole:Sem Value) (pins:List (Addr×Obj)) (s:Shared) (σ:St) (H:Hp) (Q:Bool->Hp->Prop),Inv X pins σ H s->t σ H Q->wpAny (model X.prog X.w) X.A (isTrue e X.env whole) (TP X pins σ Q) X.xe s
theorem PW.pt(h:PW X e t):PT X e t:=h _
def PA(X:Cx)(es:List Expr)(t:TA):Prop :=
 ∀ (pos:Pos) (pins:List (Addr×Obj)) (s:Shared) (σ:St) (H:Hp) (Q:List V->Hp->Prop),Inv X pins σ H s->t σ H Q->wpAny (model X.prog X.w) X.A (spliced (backTo pos (starEach es X.env))) (AP X pins σ Q) X.xe s
def PS(X:Cx)(st:Stmt)(t:TS):Prop :=
 ∀ (pins:List (Addr×Obj)) (s:Shared) (σ:St) (H:Hp) (D:Ends),Inv X pins σ H s->t D σ H->wpAny (model X.prog X.w) X.A (exec st X.env) (SP X pins D) X.xe s
def oB(X:Cx)(st:List Stmt)(t:TS):Prop :=
 ∀ (pins:List (Addr×Obj)) (s:Shared) (σ:St) (H:Hp) (D:Ends),Inv X pins σ H s->t D σ H->wpAny (model X.prog X.w) X.A (execs st X.env) (SP X pins D) X.xe s
theorem cu{α:Type}{t:Sem α}{Q Q':α->Shared->Prop}(h:wpAny M A t Q E s)(hQ:∀ a s,Q a s->Q' a s):wpAny M A t Q' E s:=aaq h hQ fun _ _ x=>x
section
variable {X:Cx}
def sV(i:Nat):TE:=fun σ H Q=>∃ v,σ[i]?=some (some v)/\Q v H
def tC(v:V):TE:=fun _ H Q=>Q v H
theorem HP{i:Nat}(hN:X.N[i]?=some x)(hv:SY X.env.scope x)(hd:(x == ("__debug__":Str))=false:=by decide)(lS:(x == ("__classdict__":Str))=false:=by decide):PE X (.Name x pos) (sV i):=by
 intro pins s σ H Q I h
 obtain ⟨v,e,h⟩:=h
 obtain ⟨m,hn,hl⟩:=I.loc
 obtain ⟨u,r,l⟩:=hl i x v hN e hv
 have fin:EP X pins σ Q u s:=⟨v,H,I,r,h⟩
 rcases l with ⟨hk,hm⟩|⟨hk,c,hc,dJ⟩
 ·exact wpAny_Name (wpAny_loadName_local I.ok.kind hk hn hm fin) hd
 ·rcases hk with hk|hk
  ·exact wpAny_Name (wpAny_loadName_cell I.ok.kind hk hc dJ fin) hd
  ·exact wpAny_Name (wpAny_loadName_free I.ok.kind hk hc dJ fin lS) hd
theorem ah{i j pos}:PE X (.Constant (.int i) j pos) (tC (.int i)):=fun _ _ _ H _ I h=>wpAny_Constant_int ⟨.int i,H,I.tok _,⟨_,rfl⟩,h⟩
theorem jx{b j pos}:PE X (.Constant (.bool b) j pos) (tC (.bl b)):=fun _ _ _ H _ I h=>Constant_bool ⟨.bl b,H,I,rfl,h⟩
theorem yb{j pos}:PE X (.Constant .none j pos) (tC .cJ):=fun _ _ _ H _ I h=>Constant_none ⟨.cJ,H,I,rfl,h⟩
theorem aG{x j pos}:PE X (.Constant (.str x) j pos) (tC (.str x)):=fun _ _ _ H _ I h=>Calls.Constant_str ⟨.str x,H,I.tok _,⟨_,rfl⟩,h⟩
def Gl(X:Cx)(x:Str):Prop:=X.env.kindOf x=some .globalImplicit
theorem iG(I:Inv X pins σ H s)(hg:Gl X x)(hm:X.mg x=some u)(h:Q u s)(hd:(x == ("__debug__":Str))=false:=by decide):wpAny (model X.prog X.w) X.A (eval (.Name x pos) X.env) Q E s :=
 Calls.Name_function_global I.ok.kind hg (Calls.loadGlobal_global (by rw [I.ok.glob];exact I.mod.glob.keeps I.bk) hm h) hd
theorem jy(I:Inv X pins σ H s)(hg:Gl X x)(hm:X.mg x=none)(hv:bootBuiltins x=some u)(h:Q u s)(hn:x≠"__name__":=by decide)(hd:(x == ("__debug__":Str))=false:=by decide):wpAny (model X.prog X.w) X.A (eval (.Name x pos) X.env) Q E s:=by
 obtain ⟨mb,h1,h2⟩:=I.mod.blt
 exact Calls.Name_function_global I.ok.kind hg (Calls.loadGlobal_builtin (by rw [I.ok.glob];exact I.mod.glob.keeps I.bk) hm (by rw [I.ok.blt];exact h1.keeps I.bk) ((h2 x hn).trans hv) h) hd
theorem aH(hg:Gl X x)(hm:X.mg x=some u)(r:RelV v u)(hd:(x == ("__debug__":Str))=false:=by decide):PE X (.Name x pos) (tC v) :=
 fun _ _ _ H _ I h=>iG I hg hm ⟨v,H,I,r,h⟩ hd
theorem sy(hg:Gl X x)(hm:X.mg x=none)(hv:bootBuiltins x=some u)(r:RelV v u)(hn:x≠"__name__":=by decide)(hd:(x == ("__debug__":Str))=false:=by decide):PE X (.Name x pos) (tC v) :=
 fun _ _ _ H _ I h=>jy I hg hm hv ⟨v,H,I,r,h⟩ hn hd
variable {a b:Expr}{ta tb:TE}{pos:Pos}
def tB(t:TE):TT:=fun σ H Q=>t σ H fun x H1=>∃ c,x=.bl c/\Q c H1
theorem dC{e:Expr}{t:TE}(h:PE X e t)(he:∀ whole,isTrue e X.env whole=(do let v <- whole;standAt e.pos;holding [v] (truthy v)):=by intro _;rfl):PT X e (tB t):=by
 intro pins s σ H Q I hw
 refine isTrue_plain (cu (h pins s σ H _ I hw) fun v s1 ⟨x,H1,I1,r1,q1⟩=>?_) (he _)
 obtain ⟨d,rfl,q⟩:=q1
 cases r1
 exact wpAny_truthy_bool ⟨H1,I1,q⟩
variable {tA W6:TT}{rest:List Expr}
def TU(t u:TT):TT:=fun σ H Q=>t σ H fun c H1=>if c=true then u σ H1 Q else Q false H1
def tOr(t u:TT):TT:=fun σ H Q=>t σ H fun c H1=>if c=true then Q true H1 else u σ H1 Q
def TV(t:TT):TT:=fun σ H Q=>t σ H fun c H1=>Q (!c) H1
theorem yc(ha:PT X a tA):PW X (.BoolOp .And [a] pos) tA:=by
 intro wh pins s σ H Q I h
 refine isTrue_and (cu (ha pins s σ H Q I h) fun c s1 e=>?_)
 cases c with
 | true=>exact isTrue_and_nil e
 | false=>exact e
theorem lU(ha:PT X a tA):PW X (.BoolOp .Or [a] pos) tA:=by
 intro wh pins s σ H Q I h
 refine isTrue_or (cu (ha pins s σ H Q I h) fun c s1 e=>?_)
 cases c with
 | false=>exact isTrue_or_nil e
 | true=>exact e
theorem Cm(ha:PT X a tA)(hb:PW X (.BoolOp .And (b::rest) pos) W6):PW X (.BoolOp .And (a::b::rest) pos) (TU tA W6):=by
 intro wh pins s σ H Q I h
 refine isTrue_and (cu (ha pins s σ H _ I h) fun c s1 ⟨H1,I1,q1⟩=>?_)
 cases c with
 | true=>exact hb wh pins s1 σ H1 Q I1 q1
 | false=>exact⟨H1,I1,q1⟩
theorem qf(ha:PT X a tA)(hb:PW X (.BoolOp .Or (b::rest) pos) W6):PW X (.BoolOp .Or (a::b::rest) pos) (tOr tA W6):=by
 intro wh pins s σ H Q I h
 refine isTrue_or (cu (ha pins s σ H _ I h) fun c s1 ⟨H1,I1,q1⟩=>?_)
 cases c with
 | true=>exact⟨H1,I1,q1⟩
 | false=>exact hb wh pins s1 σ H1 Q I1 q1
theorem eW(ha:PT X a tA):PT X (.UnaryOp .Not a pos) (TV tA):=by
 intro pins s σ H Q I h
 exact isTrue_not (ha pins s σ H (fun c H1=>Q (!c) H1) I h)
def Od(ta tb:TE):TE:=fun σ H Q=>ta σ H fun x H1=>∃ c,x=.bl c/\if c=true then tb σ H1 Q else Q (.bl false) H1
def Oe(ta:TE):TE:=fun σ H Q=>ta σ H fun x H1=>∃ c,x=.bl c/\Q (.bl (!c)) H1
theorem Cn{op}(h:PE X a t):PE X (.BoolOp op [a] pos) t:=fun pins s σ H Q I hw=>BoolOp_one (h pins s σ H Q I hw)
theorem Co(ha:PE X a ta)(hb:PE X (.BoolOp .And (b::rest) pos) tb):PE X (.BoolOp .And (a::b::rest) pos) (Od ta tb):=by
 intro pins s σ H Q I h
 refine BoolOp_and (cu (ha pins s σ H _ I h) fun v s1 ⟨x,H1,I1,r1,q1⟩=>?_)
 obtain ⟨c,rfl,q1⟩:=q1
 cases r1
 refine wpAny_truthy_bool ?_
 cases c with
 | true=>exact hb pins s1 σ H1 Q I1 q1
 | false=>exact⟨.bl false,H1,I1,rfl,q1⟩
theorem Pp(ha:PE X a ta):PE X (.UnaryOp .Not a pos) (Oe ta):=by
 intro pins s σ H Q I h
 refine UnaryOp_ (cu (ha pins s σ H _ I h) fun v s1 ⟨x,H1,I1,r1,q1⟩=>?_)
 obtain ⟨c,rfl,q1⟩:=q1
 cases r1
 exact not_of (wpAny_truthy_bool ⟨.bl (!c),H1,I1,rfl,q1⟩)
def tIf(t:TT)(ta tb:TE):TE:=fun σ H Q=>t σ H fun c H1=>if c=true then ta σ H1 Q else tb σ H1 Q
theorem fA(hc:PT X c tA)(ha:PE X a ta)(hb:PE X b tb):PE X (.IfExp c a b pos) (tIf tA ta tb):=by
 intro pins s σ H Q I h
 refine wpAny_IfExp (cu (hc pins s σ H _ I h) fun d s1 ⟨H1,I1,q1⟩=>?_)
 cases d with
 | true=>exact ha pins s1 σ H1 Q I1 q1
 | false=>exact hb pins s1 σ H1 Q I1 q1
end
def aP(K:Frag)(H:Hp)(a:Addr)(xs:List V):Prop :=
 Rd H a (.lst xs) \/
  ∃ (o:Obj) (its:Array Value) (n:Nat),K.lookup a=some o/\o.cls=.type "list"/\o.dict=none/\o.data=.seq its n/\its.size<=sizeLine/\Vals xs its.toList
def aC(K:Frag)(H:Hp)(a:Addr)(xs:List V):Prop :=
 Rd H a (.tup xs) \/
  ∃ (o:Obj) (its:Array Value) (n:Nat),K.lookup a=some o/\o.cls=.type "tuple"/\o.data=.seq its n/\its.size<=sizeLine/\Vals xs its.toList
def Yb:Value->Option V
 | .none=>some .cJ
 | .bool b=>some (.bl b)
 | .int i _=>some (.int i)
 | .str x _=>some (.str x)
 | .bytes b _=>some (.HG b)
 | .float b _=>some (.Pn b)
 | .ref a=>some (.ref a)
 | .type n=>some (.ty n)
 | _=>none
theorem RelV.abs(r:RelV x u):Yb u=some x:=by
 cases x with
 | cJ=>cases r;rfl
 | bl _=>cases r;rfl
 | int _=>obtain ⟨t,rfl⟩:=r;rfl
 | str _=>obtain ⟨t,rfl⟩:=r;rfl
 | HG _=>obtain ⟨t,rfl⟩:=r;rfl
 | Pn _=>obtain ⟨t,rfl⟩:=r;rfl
 | ref _=>cases r;rfl
 | ty _=>cases r;rfl
theorem RelV.inj(r:RelV x u)(q:RelV y u):x=y:=aaj (r.abs.symm.trans q.abs)
theorem Vals.inj:∀ {xs ys:List V} {us:List Value},Vals xs us->Vals ys us->xs=ys
 | _,_,_,.nil,.nil=>rfl
 | _,_,_,.cons r t,.cons r' t'=>by rw [r.inj r',Vals.inj t t']
section
variable {X:Cx}{pins:List (Addr×Obj)}{σ:St}{H:Hp}{s:Shared}{a:Addr}{xs ys:List V}
theorem aP.of{K:Frag}(h:H a=some (.lst xs)):aP K H a xs:=.inl (.inl h)
theorem aC.of{K:Frag}(h:H a=some (.tup xs)):aC K H a xs:=.inl (.inl h)
theorem Inv.list(I:Inv X pins σ H s)(h:aP X.K H a xs):∃ its:List Value,Vals xs its/\PlainL s.heap a its.toArray/\xs.length<=sizeLine:=by
 rcases h with h|⟨o,its,n,hk,hc,hd,hs,hz,r⟩
 ·obtain ⟨z,its,n,r,e⟩:=h.ok I.bh
  exact⟨its,r,⟨_,n,e,rfl,rfl,rfl⟩,z⟩
 ·refine⟨its.toList,r,⟨o,n,I.jq a o hk,hc,hd,by simpa using hs⟩,?_⟩
  have e:=r.length
  simp only [Array.length_toList] at e
  lia
theorem Inv.tuple(I:Inv X pins σ H s)(h:aC X.K H a xs):∃ its:List Value,Vals xs its/\IsTup s.heap a its.toArray/\xs.length<=sizeLine:=by
 rcases h with h|⟨o,its,n,hk,hc,hs,hz,r⟩
 ·obtain ⟨z,its,r,p⟩:=h.ok I.bh
  exact⟨its,r,p,z⟩
 ·refine⟨its.toList,r,⟨o,I.jq a o hk,hc,n,by simpa using hs⟩,?_⟩
  have e:=r.length
  simp only [Array.length_toList] at e
  lia
theorem Inv.sW(I:Inv X pins σ H s)(h:aP X.K H a xs)(h':aP X.K H a ys):xs=ys:=by
 obtain ⟨its,r,⟨o,n,e,_,_,d⟩,_⟩:=I.list h
 obtain ⟨its',r',⟨o',n',e',_,_,d'⟩,_⟩:=I.list h'
 rw [e] at e';cases e'
 rw [d] at d'
 injection d' with d1 _
 have:its=its':=by simpa using congrArg Array.toList d1
 subst this
 exact r.inj r'
theorem Inv.xk(I:Inv X pins σ H s)(h:aC X.K H a xs)(h':aC X.K H a ys):xs=ys:=by
 obtain ⟨its,r,⟨o,e,_,n,d⟩,_⟩:=I.tuple h
 obtain ⟨its',r',⟨o',e',_,n',d'⟩,_⟩:=I.tuple h'
 rw [e] at e';cases e'
 rw [d] at d'
 injection d' with d1 _
 have:its=its':=by simpa using congrArg Array.toList d1
 subst this
 exact r.inj r'
end
abbrev Cx.ik(X:Cx)(E:Value->Shared->Prop):Cx:={ X with xe:=E }
abbrev Cx.Cp(X:Cx):Cx:=X.ik fun _ _=>False
theorem Cx.Ok.ik{X:Cx}(ok:X.Ok)(E:Value->Shared->Prop):(X.ik E).Ok :=
 ⟨ok.mod,ok.kind,ok.glob,ok.blt,ok.above,ok.inj,ok.has,ok.LH,ok.hd,ok.frames,ok.LZ,ok.Po,ok.bs,ok.Ci,ok.wc,ok.ya,ok.iE,ok.Ft⟩
theorem Cx.Ok.dQ{X:Cx}{E:Value->Shared->Prop}(ok:(X.ik E).Ok):X.Ok :=
 ⟨ok.mod,ok.kind,ok.glob,ok.blt,ok.above,ok.inj,ok.has,ok.LH,ok.hd,ok.frames,ok.LZ,ok.Po,ok.bs,ok.Ci,ok.wc,ok.ya,ok.iE,ok.Ft⟩
section
variable {X:Cx}{pins:List (Addr×Obj)}{σ:St}{H:Hp}{s:Shared}{E:Value->Shared->Prop}
theorem Inv.ik(I:Inv X pins σ H s)(E:Value->Shared->Prop):Inv (X.ik E) pins σ H s:=⟨I.ok.ik E,I.os,I.bare,I.base,I.loc,I.cell,I.free,I.dI,I.pin,I.bh,I.len⟩
theorem Inv.dQ(I:Inv (X.ik E) pins σ H s):Inv X pins σ H s:=⟨I.ok.dQ,I.os,I.bare,I.base,I.loc,I.cell,I.free,I.dI,I.pin,I.bh,I.len⟩
theorem SP.dQ(h:SP (X.ik E) pins D f s'):SP X pins D f s':=by
 cases f with
 | next=>obtain ⟨σ',H',I,q⟩:=h;exact⟨σ',H',I.dQ,q⟩
 | brk=>obtain ⟨σ',H',I,q⟩:=h;exact⟨σ',H',I.dQ,q⟩
 | cont=>obtain ⟨σ',H',I,q⟩:=h;exact⟨σ',H',I.dQ,q⟩
 | ret u=>obtain ⟨v,σ',H',I,r,q⟩:=h;exact⟨v,σ',H',I.dQ,r,q⟩
theorem oB.Cp{st:List Stmt}{t:TS}(h:oB X.Cp st t):oB X st t:=fun pins s σ H D I hw =>
 aaq (h pins s σ H D (I.ik _) hw) (fun _ _ q=>q.dQ) fun _ _ z=>False.elim z
end
section
variable {X:Cx}{st:Stmt}{rest:List Stmt}{t u:TS}{e:Expr}{te:TE}{pos:Pos}
def Of:TS:=fun D σ H=>D.nx σ H
def TX(t u:TS):TS:=fun D σ H=>t { D with nx:=u D } σ H
theorem aK:oB X [] Of:=fun _ _ σ H _ I h=>wpAny_execs_nil ⟨σ,H,I,h⟩
theorem ag(h1:PS X st t)(h2:oB X rest u):oB X (st::rest) (TX t u):=by
 intro pins s σ H D I h
 refine wpAny_execs_cons (cu (h1 pins s σ H { D with nx:=u D } I h) fun f s1 q=>?_)
 cases f with
 | next =>
  obtain ⟨σ',H',I',q⟩:=q
  exact h2 pins s1 σ' H' D I' q
 | ret v=>exact q
 | brk=>exact q
 | cont=>exact q
theorem ai(h1:PS X st t):oB X [st] t:=by
 intro pins s σ H D I h
 refine wpAny_execs_cons (cu (h1 pins s σ H D I h) fun f s1 q=>?_)
 cases f with
 | next=>exact wpAny_execs_nil q
 | ret v=>exact q
 | brk=>exact q
 | cont=>exact q
theorem Inv.quiet(I:Inv X pins σ H s):interactive X.env=false:=by simp [interactive,I.ok.kind]
def Og(te:TE):TS:=fun D σ H=>te σ H fun _ H1=>D.nx σ H1
theorem fj(he:PE X e te)(hs:swapsWith e none pos.line X.env=pure false:=by rfl):PS X (.Expr e pos) (Og te):=by
 intro pins s σ H D I h
 exact wpAny_Expr_any (cu (he pins s σ H _ I h) fun v s1 ⟨x,H1,I1,r1,q1⟩=>⟨σ,H1,I1,q1⟩) I.quiet hs
def TY(te:TE):TS:=fun D σ H=>te σ H D.rt
theorem au(he:PE X e te):PS X (.Return (some e) pos) (TY te):=by
 intro pins s σ H D I h
 exact wpAny_Return_some (cu (he pins s σ H _ I h) fun v s1 ⟨x,H1,I1,r1,q1⟩=>⟨x,σ,H1,I1,r1,q1⟩)
def TZ(c:TT)(t u:TS):TS:=fun D σ H=>c σ H fun b H1=>if b=true then t D σ H1 else u D σ H1
theorem bj(hc:PT X c tc)(ha:oB X a t)(hb:oB X b u):PS X (.If c a b pos) (TZ tc t u):=by
 intro pins s σ H D I h
 refine wpAny_If (cu (hc pins s σ H _ I h) fun d s1 ⟨H1,I1,q1⟩=>?_)
 cases d with
 | true=>exact ha pins s1 σ H1 D I1 q1
 | false=>exact hb pins s1 σ H1 D I1 q1
def Pq:TS:=fun _ _ _=>False
theorem ng:PS X st Pq:=fun _ _ _ _ _ _ h=>h.elim
end
abbrev TG:=V->St->Hp->(St->Hp->Prop)->Prop
abbrev Oh:=List V->St->Hp->(St->Hp->Prop)->Prop
def PG(X:Cx)(target:Expr)(t:TG):Prop :=
 ∀ (pins:List (Addr×Obj)) (s:Shared) (σ:St) (H:Hp) (v:V) (u:Value) (Q:St->Hp->Prop),Inv X pins σ H s->RelV v u->t v σ H Q ->
  wpAny (model X.prog X.w) X.A (assign target X.env u) (fun _ s'=>∃ σ' H',Inv X pins σ' H' s'/\Q σ' H') X.xe s
def T5(X:Cx)(ts:List Expr)(t:Oh):Prop :=
 ∀ (pins:List (Addr×Obj)) (s:Shared) (σ:St) (H:Hp) (vs:List V) (us:List Value) (Q:St->Hp->Prop),Inv X pins σ H s->Vals vs us->t vs σ H Q ->
  wpAny (model X.prog X.w) X.A (assignInOrder ((assignEach ts X.env).map (·.2)) us) (fun _ s'=>∃ σ' H',Inv X pins σ' H' s'/\Q σ' H') X.xe s
abbrev Ma:=V->V->V->Hp->(Hp->Prop)->Prop
def T6(X:Cx)(t:Ma):Prop :=
 ∀ (pins:List (Addr×Obj)) (s:Shared) (σ:St) (H:Hp) (o i v:V) (ov iv u:Value) (Q:Hp->Prop),Inv X pins σ H s->RelV o ov->RelV i iv->RelV v u->t o i v H Q ->
  wpAny (model X.prog X.w) X.A (setItem ov iv u) (fun _ s'=>∃ H',Inv X pins σ H' s'/\Q H') X.xe s
section
variable {X:Cx}{pos:Pos}
def bu(i:Nat):TG:=fun v σ H Q=>Q (σ.set i (some v)) H
theorem aq{i:Nat}(hN:X.N.Nodup)(hi:X.N[i]?=some x)(hx:Loc X.env.scope x)(hf:X.fn x=true\/X.env.scope.names.lookup x=some .local:=by first|exact .inl rfl|exact .inr rfl|assumption):PG X (.Name x pos) (bu i):=by
 intro pins s σ H v u Q I r h
 exact wpAny_assign_Name (sU I hN hi hx r (fun s' I'=>⟨_,H,I',h⟩) hf)
def yd:Oh:=fun vs σ H Q=>vs=[]/\Q σ H
def eS(t:TG)(u:Oh):Oh:=fun vs σ H Q=>∃ v r,vs=v::r/\t v σ H fun σ' H'=>u r σ' H' Q
theorem eI:T5 X [] yd:=by
 intro pins s σ H vs us Q I r h
 obtain ⟨e,h⟩:=h
 subst e
 cases r
 exact assignInOrder_nil ⟨σ,H,I,h⟩
theorem bq{u:Oh}(h1:PG X e t)(h2:T5 X es u)(hs:(assignEach (e::es) X.env).map (·.2)=assign e X.env::(assignEach es X.env).map (·.2):=by rfl):T5 X (e::es) (eS t u):=by
 intro pins s σ H vs us Q I r h
 obtain ⟨v,vr,e1,h⟩:=h
 subst e1
 cases r with
 | cons r rr =>
  rw [hs]
  refine assignInOrder_cons (cu (h1 pins s σ H _ _ _ I r h) fun _ s1 ⟨σ1,H1,I1,q1⟩=>?_)
  exact h2 pins s1 σ1 H1 _ _ Q I1 rr q1
def wd(K:Frag)(n:Nat)(t:Oh):TG:=fun v σ H Q=>∃ a xs,v=.ref a/\aC K H a xs/\xs.length=n/\t xs σ H Q
theorem Ps{k:Nat}{t:Oh}{n:Nat}(hc:X.calm=true)(h:T5 X es t)(hn:(assignEach es X.env).length=n:=by rfl)(rD:(assignEach es X.env).findIdx? (·.1)=none:=by rfl):PG X (.Tuple es k pos) (wd X.K n t):=by
 intro pins s σ H v u Q I r hw
 obtain ⟨a,xs,e1,hq,hl,hw⟩:=hw
 subst e1
 cases r
 obtain ⟨its,rv,ht,hz⟩:=I.tuple hq
 refine assign_Tuple_tuple (I.ok.hd hc) ht (by simp [hn,<- hl,rv.length]) rD fun h' hx=>?_
 have I1:Inv X pins σ H { s with heap:=h' }:=I.kept (t':=s.toks) fun b o e=>hx b o (aa1 (aae e)) e
 exact h pins _ σ H xs _ Q I1 (by simpa using rv) hw
def T7(to ti:TE)(t:Ma):TG:=fun v σ H Q=>to σ H fun o H1=>ti σ H1 fun i H2=>t o i v H2 fun H3=>Q σ H3
theorem Pt{t:Ma}(ho:PE X o to)(hi:PE X i ti)(hs:T6 X t)(ha:∀ v,assign (.Subscript o i pos) X.env v=(do
   let ov <- holding [v] (eval o X.env)
   let iv <- holding [v,ov] (eval i X.env)
   standAt pos
   holding [v,ov,iv] (setItem ov iv v)
   release [v,ov,iv] []):=by intro _;rfl):PG X (.Subscript o i pos) (T7 to ti t):=by
 intro pins s σ H v u Q I r h
 rw [ha]
 refine aac (wpAny_holding (cu (ho pins s σ H _ I h) fun ov s1 ⟨x,H1,I1,r1,q1⟩=>?_))
 refine aac (wpAny_holding (cu (hi pins s1 σ H1 _ I1 q1) fun iv s2 ⟨y,H2,I2,r2,q2⟩=>?_))
 refine aac (wpAny_standAt (aac (wpAny_holding (cu (hs pins s2 σ H2 x y v ov iv u _ I2 r1 r2 r q2) fun _ s3 ⟨H3,I3,q3⟩=>?_))))
 exact wpAny_release ⟨σ,H3,I3,q3⟩
def HQ(te:TE)(g:TG):TS:=fun D σ H=>te σ H fun x H1=>g x σ H1 D.nx
theorem Pu(he:PE X e te)(hg:PG X tg g)(hs:swapsWithSole [tg] e pos.line X.env=pure false:=by rfl)(hw:swappedStores [tg] e X.env=pure none:=by rfl)(h1:(assignEach [tg] X.env).map (·.2)=[assign tg X.env]:=by rfl):PS X (.Assign [tg] e pos) (HQ te g):=by
 intro pins s σ H D I h
 refine wpAny_Assign_stores (cu (he pins s σ H _ I h) fun v s1 ⟨x,H1,I1,r1,q1⟩=>?_) hs hw
 rw [h1]
 exact cu (hg pins s1 σ H1 x v _ I1 r1 q1) fun _ s2 q=>q
theorem eX{i:Nat}{x:Str}{e:Expr}{te:TE}{pos':Pos}(hN:X.N.Nodup)(hi:X.N[i]?=some x)(hx:Loc X.env.scope x)(he:PE X e te)(hs:swapsWith e (some (.Name x pos')) pos.line X.env=pure false:=by rfl)(hf:X.fn x=true\/X.env.scope.names.lookup x=some .local:=by first|exact .inl rfl|exact .inr rfl|assumption) :
  PS X (.Assign [.Name x pos'] e pos) (HQ te (bu i)):=by
 intro pins s σ H D I h
 refine wpAny_Assign_Name (cu (he pins s σ H _ I h) fun v s1 ⟨y,H1,I1,r1,q1⟩=>?_) hs
 exact sU I1 hN hi hx r1 (fun s2 I2=>⟨_,H1,I2,q1⟩) hf
end
section
variable {X:Cx}{pos:Pos}
def HR(c:TT)(tb:TS):TS:=fun D σ H=>∃ W:Nat->St->Hp->Prop,(∃ m,W m σ H)/\∀ m σ H,W m σ H ->
 c σ H fun b H1=>if b=true then ∃ N:St->Hp->Prop,(∀ σ' H',N σ' H'->∃ m',m'<m/\W m' σ' H')/\tb { D with nx:=N,ct:=N,bk:=D.nx } σ H1 else D.nx σ H1
theorem sX(hp:PassesOwn (model X.prog X.w) X.A X.env X.xe)(hc:PT X c tc)(hb:oB X body tb):PS X (.While c body [] pos) (HR tc tb):=by
 intro pins s σ H D I h
 obtain ⟨W,⟨m0,w0⟩,turn⟩:=h
 refine wpAny_While (codeAny_whileLoop (fun n s'=>∃ σ' H',Inv X pins σ' H' s'/\W n σ' H') ?_ m0 ⟨σ,H,I,w0⟩)
 rintro n s1 ⟨σ1,H1,I1,w1⟩
 refine wpAny_passesOwn hp (cu (hc pins s1 σ1 H1 _ I1 (turn n σ1 H1 w1)) fun b s2 ⟨H2,I2,q2⟩=>?_)
 cases b with
 | true =>
  obtain ⟨N,hN,q2⟩:=q2
  rw [if_pos rfl]
  refine wpAny_passesOwn hp (cu (hb pins s2 σ1 H2 _ I2 q2) fun f s3 q3=>?_)
  cases f with
  | next =>
   obtain ⟨σ3,H3,I3,n3⟩:=q3
   obtain ⟨m',hm,w3⟩:=hN σ3 H3 n3
   exact⟨m',hm,σ3,H3,I3,w3⟩
  | cont =>
   obtain ⟨σ3,H3,I3,n3⟩:=q3
   obtain ⟨m',hm,w3⟩:=hN σ3 H3 n3
   exact⟨m',hm,σ3,H3,I3,w3⟩
  | brk=>exact q3
  | ret v=>exact q3
 | false =>
  rw [if_neg Bool.false_ne_true]
  exact wpAny_execs_nil ⟨σ1,H2,I2,q2⟩
end
structure It where
 go:Nat->Hp->Prop
 Eg:Nat->Hp->V->Hp->Prop
 stop:Nat->Hp->Prop
def lg(X:Cx)(pins:List (Addr×Obj))(H:Hp)(b:Addr):Prop :=
 H b=none/\b≠X.env.locals/\b∉X.fs/\(b∈X.ex\/X.s₀.heap.objs.size<=b)/\(∀ x c,X.env.cells.lookup x=some c->c≠b)/\∀ p∈X.pn++pins,p.1≠b
theorem Inv.we(I:Inv X pins σ H s)(hb:s.heap.objs.size<=b)(hn:H' b=none):lg X pins H' b:=by
 refine⟨hn,Nat.ne_of_gt (Nat.lt_of_lt_of_le I.lt hb),I.X6 hb,.inr (aag I.sz hb),fun x c e z=>?_,fun p hp z=>?_⟩
 ·obtain ⟨v,q⟩:=I.cell x c e
  exact absurd (Nat.lt_of_lt_of_le q.lt (by rw [z];exact hb)) (Nat.lt_irrefl _)
 ·exact absurd (Nat.lt_of_lt_of_le (aae (I.pin p hp).1) (by rw [z];exact hb)) (Nat.lt_irrefl _)
structure Turn(P:Program)(w:World)(K:Frag)(tg:Expr)(J:It)(fp:List Addr)(it:Addr)(tn:Nat->Heap->Prop):Prop where
 mem:it∈fp
 obj:∀ i h,tn i h->∀ b∈fp,∃ o,h.get? b=some o/\∀ v,o.data≠.cell v
 keep:∀ i h h',tn i h->(∀ b∈fp,∀ o,h.get? b=some o->h'.get? b=some o)->tn i h'
 item:∀ (X:Cx),X.prog=P->X.w=w->X.K=K->X.calm=true->∀ (i:Nat) (pins:List (Addr×Obj)) (s:Shared) (σ:St) (H:Hp) (E:Value->Shared->Prop),Inv X pins σ H s->(∀ b∈fp,lg X pins H b)->tn i s.heap->J.go i H ->
  wpAny (model P w) X.A (pyNext (.ref it)) (fun r s1=>∃ u,r=some u /\
   wpAny (model P w) X.A (letOwnedTupleGo tg (.ref it) u) (fun _ s2=>∃ x H',Inv X pins σ H' s2/\RelV x u/\J.Eg i H x H'/\tn (i+1) s2.heap/\∀ b∈fp,H' b=none) E s1) E s
 done:∀ (X:Cx),X.prog=P->X.w=w->X.K=K->X.calm=true->∀ (i:Nat) (pins:List (Addr×Obj)) (s:Shared) (σ:St) (H:Hp) (E:Value->Shared->Prop),Inv X pins σ H s->(∀ b∈fp,lg X pins H b)->tn i s.heap->J.stop i H ->
  wpAny (model P w) X.A (pyNext (.ref it)) (fun r s1=>r=none/\Inv X pins σ H s1) E s
 self:∀ (A:Around) (i:Nat) (s:Shared) (Q:Value->Shared->Prop) (E:Value->Shared->Prop),tn i s.heap->Q (.ref it) s->wpAny (model P w) A (pyIter (.ref it)) Q E s
abbrev TI:=St->Hp->(It->Hp->Prop)->Prop
def PIE(X:Cx)(pins:List (Addr×Obj))(σ:St)(tg:Expr)(R:It->Hp->Prop)(SZ:Value)(s2:Shared):Prop :=
 ∃ (it:Addr) (fp:List Addr) (tn:Nat->Heap->Prop) (J:It) (H':Hp),SZ=.ref it/\Inv X pins σ H' s2/\Turn X.prog X.w X.K tg J fp it tn/\tn 0 s2.heap/\(∀ b∈fp,lg X pins H' b)/\R J H'
def PI(X:Cx)(tg iter:Expr)(wi:TI):Prop :=
 ∀ (pins:List (Addr×Obj)) (s:Shared) (σ:St) (H:Hp) (R:It->Hp->Prop),Inv X pins σ H s->wi σ H R ->
  wpAny (model X.prog X.w) X.A (eval iter X.env) (fun v s1=>wpAny (model X.prog X.w) X.A (pyIter v) (PIE X pins σ tg R) X.xe s1) X.xe s
theorem sY{n : String}(ho : s.heap.get? it=some o)(hc : o.cls=.type n)(hd : o.data=.fields vs)(hn : ["enumerate", "zip", "dict_itemiterator", "dict_reverseitemiterator", "odict_iterator", "itertools.zip_longest", "itertools.pairwise"].contains n=false)(hQ : Q () s): wpAny M A (letOwnedTupleGo tg (.ref it) u) Q E s := by
  unfold letOwnedTupleGo
  cases tg <;> first
    | exact aap hQ
    | (cases u <;> first
        | exact aap hQ
        | (refine aac (wpAny_load ho ?_)
           rw [hc, hd]
           show wpAny M A (if (["enumerate", "zip", "dict_itemiterator", "dict_reverseitemiterator", "odict_iterator", "itertools.zip_longest", "itertools.pairwise"].contains n && vs[0]? == some (rawInt _))=true then _ else _) Q E s
           rw [if_neg (by intro h;rw [hn, Bool.false_and] at h;cases h)]
           exact aap hQ))
def LJ(K:Frag)(a:Addr):It :=
 ⟨fun i H=>∃ xs x,aP K H a xs/\xs[i]?=some x,fun i H x H'=>H'=H/\∀ xs,aP K H a xs->xs[i]?=some x,fun i H=>∃ xs,aP K H a xs/\xs.length<=i⟩
def HS(K:Frag)(a:Addr):It :=
 ⟨fun i H=>∃ xs x,aC K H a xs/\xs[i]?=some x,fun i H x H'=>H'=H/\∀ xs,aC K H a xs->xs[i]?=some x,fun i H=>∃ xs,aC K H a xs/\xs.length<=i⟩
def Fw(lo:Int)(n:Nat):It:=⟨fun i _=>i<n,fun i H x H'=>H'=H/\x=.int (lo+i),fun i _=>n<=i⟩
theorem kx{P:Program}{w:World}{K:Frag}{tg:Expr}(a it:Addr):Turn P w K tg (LJ K a) [it] it (fun i h=>h.IsListIter it a i) where
 mem:=by simp
 obj:=fun i h st b hb=>by
  have e:b=it:=by simpa using hb
  subst e
  obtain ⟨o,e,c,d⟩:=st
  exact⟨o,e,fun v z=>by rw [d] at z;cases z⟩
 keep:=fun i h h' st k=>st.at fun o e=>k it (by simp) o e
 item:=by
  intro X hP hw hK hc i pins s σ H E I hf st hg
  subst hP hw hK
  obtain ⟨xs,x,hq,hx⟩:=hg
  obtain ⟨its,rv,p,hz⟩:=I.list hq
  obtain ⟨u,hu,ru⟩:=rv.get hx
  obtain ⟨f0,f1,f2,f3,f4,f5⟩:=hf it (by simp)
  refine wpAny_pyNext_list_item st p.isList (x:=u) (by simpa using hu) fun h' gm sb=>?_
  have I1:Inv X pins σ H { s with heap:=h' }:=I.turned (t':=s.toks) (fun b o hb e=>(sb.2 b hb).trans e) f0 f1 f3 f4 f5
  obtain ⟨o,e,c,d⟩:=id gm
  exact⟨u,rfl,sY (s:={ s with heap:=h' }) e c d aa8 ⟨x,H,I1,ru,⟨rfl,fun ys hy=>by rw [I.sW hy hq];exact hx⟩,gm,fun b hb=>(hf b hb).1⟩⟩
 done:=by
  intro X hP hw hK hc i pins s σ H E I hf st hg
  subst hP hw hK
  obtain ⟨xs,hq,hx⟩:=hg
  obtain ⟨its,rv,p,hz⟩:=I.list hq
  obtain ⟨f0,f1,f2,f3,f4,f5⟩:=hf it (by simp)
  have hl:=rv.length
  exact wpAny_pyNext_list_end (I.ok.hd hc) st p.isList (by simp;lia) fun h' eb=>⟨rfl,I.turned (t':=s.toks) (fun b o hb e=>eb b o hb e) f0 f1 f3 f4 f5⟩
 self:=fun _ _ _ _ _ st h=>wpAny_pyIter_listiter st h
theorem Cq{P:Program}{w:World}{K:Frag}{tg:Expr}(a it:Addr):Turn P w K tg (HS K a) [it] it (fun i h=>h.IsTupleIter it a i) where
 mem:=by simp
 obj:=fun i h st b hb=>by
  have e:b=it:=by simpa using hb
  subst e
  obtain ⟨o,e,c,d⟩:=st
  exact⟨o,e,fun v z=>by rw [d] at z;cases z⟩
 keep:=fun i h h' st k=>st.at fun o e=>k it (by simp) o e
 item:=by
  intro X hP hw hK hc i pins s σ H E I hf st hg
  subst hP hw hK
  obtain ⟨xs,x,hq,hx⟩:=hg
  obtain ⟨its,rv,p,hz⟩:=I.tuple hq
  obtain ⟨u,hu,ru⟩:=rv.get hx
  obtain ⟨f0,f1,f2,f3,f4,f5⟩:=hf it (by simp)
  refine wpAny_pyNext_tuple_item st (show s.heap.IsTuple a its.toArray from p) (x:=u) (by simpa using hu) fun h' gm sb=>?_
  have I1:Inv X pins σ H { s with heap:=h' }:=I.turned (t':=s.toks) (fun b o hb e=>(sb.2 b hb).trans e) f0 f1 f3 f4 f5
  obtain ⟨o,e,c,d⟩:=id gm
  exact⟨u,rfl,sY (s:={ s with heap:=h' }) e c d aa8 ⟨x,H,I1,ru,⟨rfl,fun ys hy=>by rw [I.xk hy hq];exact hx⟩,gm,fun b hb=>(hf b hb).1⟩⟩
 done:=by
  intro X hP hw hK hc i pins s σ H E I hf st hg
  subst hP hw hK
  obtain ⟨xs,hq,hx⟩:=hg
  obtain ⟨its,rv,p,hz⟩:=I.tuple hq
  obtain ⟨f0,f1,f2,f3,f4,f5⟩:=hf it (by simp)
  have hl:=rv.length
  exact wpAny_pyNext_tuple_end (I.ok.hd hc) st (show s.heap.IsTuple a its.toArray from p) (by simp;lia) fun h' eb=>⟨rfl,I.turned (t':=s.toks) (fun b o hb e=>eb b o hb e) f0 f1 f3 f4 f5⟩
 self:=fun _ _ _ _ _ st h=>wpAny_pyIter_tupleiter st h
theorem Cr{P:Program}{w:World}{K:Frag}{tg:Expr}(it:Addr)(lo:Int)(n:Nat):Turn P w K tg (Fw lo n) [it] it (fun i h=>IsRangeIter h it (lo+(i:Nat)*1) ((n:Int) - (i:Nat)) 1) where
 mem:=by simp
 obj:=fun i h st b hb=>by
  have e:b=it:=by simpa using hb
  subst e
  exact⟨_,st,fun v z=>by
   have z':Data.fields _=Data.cell v:=z
   cases z'⟩
 keep:=fun i h h' st k=>k it (by simp) _ st
 item:=by
  intro X hP hw hK hc i pins s σ H E I hf st hg
  subst hP hw hK
  obtain ⟨f0,f1,f2,f3,f4,f5⟩:=hf it (by simp)
  have W:=Walks.range (prog:=X.prog) (w:=X.w) (I.ok.hd hc) it lo 1 n
  refine W.item i s _ _ hg st fun v h' tk hv gm kk=>?_
  obtain ⟨t,rfl⟩:=hv
  have I1:Inv X pins σ H { s with heap:=h',toks:=tk }:=I.turned (fun b o hb e=>kk b o (by simpa using hb) e) f0 f1 f3 f4 f5
  refine⟨_,rfl,sY (s:={ s with heap:=h',toks:=tk }) (n:="range_iterator") gm rfl rfl aa8 ⟨.int (lo+i),H,I1,⟨t,?_⟩,⟨rfl,rfl⟩,gm,fun b hb=>(hf b hb).1⟩⟩
  rw [mul_one]
 done:=by
  intro X hP hw hK hc i pins s σ H E I hf st hg
  subst hP hw hK
  obtain ⟨f0,f1,f2,f3,f4,f5⟩:=hf it (by simp)
  exact wpAny_pyNext_range_end (I.ok.hd hc) st (by have:n<=i:=hg;lia) fun h' eb=>⟨rfl,I.turned (t':=s.toks) (fun b o hb e=>eb b o hb e) f0 f1 f3 f4 f5⟩
 self:=fun _ _ _ _ _ st h=>wpAny_pyIter_rangeiter st h
section
variable {X:Cx}{tg:Expr}
def HU(K:Frag)(tl:TE):TI:=fun σ H R=>tl σ H fun x H1=>∃ a,x=.ref a/\(∃ xs,aP K H1 a xs)/\R (LJ K a) H1
def Pw(K:Frag)(tl:TE):TI:=fun σ H R=>tl σ H fun x H1=>∃ a,x=.ref a/\(∃ xs,aC K H1 a xs)/\R (HS K a) H1
theorem Mb{l:Expr}{tl:TE}(hl:PE X l tl):PI X tg l (HU X.K tl):=by
 intro pins s σ H R I h
 refine cu (hl pins s σ H _ I h) fun v s1 ⟨x,H1,I1,r1,q1⟩=>?_
 obtain ⟨a,e,⟨xs,hq⟩,q⟩:=q1
 subst e
 cases r1
 obtain ⟨its,rv,p,hz⟩:=I1.list hq
 refine wpAny_pyIter_list p.isList ?_
 refine⟨s1.heap.objs.size,[s1.heap.objs.size],_,_,H1,rfl,I1.kept (t':=s1.toks) fun b o e=>aab _ e,kx a _,⟨_,aaf _ rfl,rfl,rfl⟩,fun b hb=>?_,q⟩
 have e:b=s1.heap.objs.size:=by simpa using hb
 subst e
 exact I1.we (aah _) (I1.bh.fresh (aah _))
theorem Px{l:Expr}{tl:TE}(hl:PE X l tl):PI X tg l (Pw X.K tl):=by
 intro pins s σ H R I h
 refine cu (hl pins s σ H _ I h) fun v s1 ⟨x,H1,I1,r1,q1⟩=>?_
 obtain ⟨a,e,⟨xs,hq⟩,q⟩:=q1
 subst e
 cases r1
 obtain ⟨its,rv,p,hz⟩:=I1.tuple hq
 refine wpAny_pyIter_tuple (show s1.heap.IsTuple a its.toArray from p) ?_
 refine⟨s1.heap.objs.size,[s1.heap.objs.size],_,_,H1,rfl,I1.kept (t':=s1.toks) fun b o e=>aab _ e,Cq a _,⟨_,aaf _ rfl,rfl,rfl⟩,fun b hb=>?_,q⟩
 have e:b=s1.heap.objs.size:=by simpa using hb
 subst e
 exact I1.we (aah _) (I1.bh.fresh (aah _))
theorem HV{lo hi:Int}{tk:Nat}(I:Inv X pins σ H s)(h1:-(2 ^ 62)<=lo)(h2:lo<2 ^ 62)(h3:-(2 ^ 62)<=hi)(h4:hi<2 ^ 62)(q:R (Fw lo (hi - lo).toNat) H):wpAny (model X.prog X.w) X.A (pyIter (.ref s.heap.objs.size)) (PIE X pins σ tg R) E { s with heap:=s.heap.push { cls:=.type "range",data:=.fields #[.int lo t,.int hi u,.int 1 v] },toks:=tk }:=by
 refine wpAny_pyIter_range (IsRange.new ..) (small_one h1 h2 h3 h4) ?_
 have I1:Inv X pins σ H { s with heap:=s.heap.push { cls:=.type "range",data:=.fields #[.int lo t,.int hi u,.int 1 v] },toks:=tk }:=I.kept fun b o e=>aab _ e
 refine⟨(s.heap.push { cls:=.type "range",data:=.fields #[.int lo t,.int hi u,.int 1 v] }).objs.size,[(s.heap.push { cls:=.type "range",data:=.fields #[.int lo t,.int hi u,.int 1 v] }).objs.size],_,_,H,rfl,
  I1.kept (t':=tk) fun b o e=>aab _ e,Cr _ lo (hi - lo).toNat,?_,fun b hb=>?_,q⟩
 ·have e1:lo+((0:Nat):Int)*1=lo:=by simp
  have e2:(((hi - lo).toNat:Nat):Int) - ((0:Nat):Int)=Builtin.Range.rangeSize lo hi 1:=by rw [rangeSize_one];split <;> lia
  show IsRangeIter _ _ (lo+((0:Nat):Int)*1) ((((hi - lo).toNat:Nat):Int) - ((0:Nat):Int)) 1
  rw [e1,e2]
  exact aaf _ rfl
 ·have e:b=(s.heap.push { cls:=.type "range",data:=.fields #[.int lo t,.int hi u,.int 1 v] }).objs.size:=by simpa using hb
  subst e
  exact I1.we (aah _) (I1.bh.fresh (aah _))
def Oi(ta:TA):TI:=fun σ H R=>ta σ H fun vs H1=>∃ j:Int,vs=[.int j]/\-(2 ^ 62)<=j/\j<2 ^ 62/\R (Fw 0 j.toNat) H1
theorem dM {a:Expr} {ta:TA} {p pos:Pos} (hg:Gl X "range") (hm:X.mg "range"=none) (ha:PA X [a] ta) (hs:starEach [a] X.env=[(false,eval a X.env)]:=by rfl):PI X tg (.Call (.Name "range" p) [a] [] pos) (Oi ta):=by
 intro pins s σ H R I h
 refine Call_ (jy I hg hm boot_range (callWith_type1 (cu (ha pos pins s σ H _ I h) fun us s1 ⟨vs,H1,I1,r1,q1⟩=>?_) hs rfl))
 obtain ⟨j,e,q1,q2,q⟩:=q1
 subst e
 cases r1 with
 | cons r rr =>
  cases rr
  obtain ⟨t,rfl⟩:=r
  exact call_range_1 (HV I1 aaa aaa q1 q2 (by simpa using q))
def T8(wi:TI)(g:TG)(tb:TS):TS:=fun D σ H=>wi σ H fun J H1=>∃ W:Nat->Nat->St->Hp->Prop,(∃ m,W 0 m σ H1)/\∀ i m σ H,W i m σ H ->
 (J.stop i H/\D.nx σ H)\/(J.go i H/\∃ N:St->Hp->Prop,(∀ σ' H',N σ' H'->∃ m',m'<m/\W (i+1) m' σ' H')/\∀ x H',J.Eg i H x H'->g x σ H' fun σ2 H2=>tb { D with nx:=N,ct:=N,bk:=D.nx } σ2 H2)
def sZ(fp:List Addr)(h:Heap):List (Addr×Obj):=fp.filterMap fun b=>(h.get? b).map fun o=>(b,o)
theorem iH(hb:b∈fp)(e:h.get? b=some o):(b,o)∈sZ fp h:=mem_filterMap.mpr ⟨b,hb,by rw [e];rfl⟩
theorem Fx(hp:p∈sZ fp h):p.1∈fp/\h.get? p.1=some p.2:=by
 obtain ⟨b,hb,e⟩:=mem_filterMap.mp hp
 cases q:h.get? b with
 | none=>rw [q] at e;cases e
 | some o =>
  rw [q] at e
  have e':(b,o)=p:=aaj e
  subst e'
  exact⟨hb,q⟩
theorem Inv.pinned(I:Inv X pins σ H s)(hf:∀ b∈fp,lg X pins H b)(ho:∀ b∈fp,∃ o,s.heap.get? b=some o/\∀ v,o.data≠.cell v):Inv X (pins++sZ fp s.heap) σ H s :=
 I.iF fun p hp=>(aax.mp hp).elim (fun z=>I.pin p (aau _ z)) fun z=>by
  obtain ⟨hb,e⟩:=Fx z
  obtain ⟨f0,f1,f2,_⟩:=hf p.1 hb
  obtain ⟨o,e',d⟩:=ho p.1 hb
  rw [e] at e';cases e'
  exact⟨e,f0,f1,f2,d⟩
theorem Inv.fB(I:Inv X (pins++pl) σ H s):Inv X pins σ H s:=I.iF fun p hp=>I.pin p (aau _ (aav _ hp))
theorem ck(hp:PassesOwn (model X.prog X.w) X.A X.env X.xe)(hc:X.calm=true)(hi:PI X tg iter wi)(hg:PG X tg g)(hb:oB X body tb)(hs:∀ x,foldedSetIterable iter X.env x=pure x:=by intro _;rfl):PS X (.For tg iter body [] pos) (T8 wi g tb):=by
 intro pins s σ H D I h
 refine wpAny_For (cu (hi pins s σ H _ I h) fun v s1 h1=>cu h1 fun SZ s2 h2=>?_) hs
 obtain ⟨it,fp,tn,J,H2,e,I2,T,Ta,f2,W,⟨m0,w0⟩,turn⟩:=h2
 subst e
 have Py:∀ {H':Hp},(∀ b∈fp,H' b=none)->∀ b∈fp,lg X pins H' b:=fun hn b hb=>⟨hn b hb,(f2 b hb).2⟩
 refine codeAny_forLoop_any (fun n s'=>∃ i σ' H',Inv X pins σ' H' s'/\tn i s'.heap/\(∀ b∈fp,H' b=none)/\W i n σ' H') ?_ m0 ⟨0,σ,H2,I2,Ta,fun b hb=>(f2 b hb).1,w0⟩
 rintro n s3 ⟨i,σ3,H3,I3,Oj,fr3,w3⟩
 rcases turn i n σ3 H3 w3 with ⟨stop,qn⟩|⟨go,N,hN,step⟩
 ·refine wpAny_passesOwn hp (cu (T.done X rfl rfl rfl hc i pins s3 σ3 H3 X.xe I3 (Py fr3) Oj stop) fun r s4 ⟨hr,I4⟩=>?_)
  subst hr
  exact wpAny_execs_nil ⟨σ3,H3,I4,qn⟩
 ·refine wpAny_passesOwn hp (cu (T.item X rfl rfl rfl hc i pins s3 σ3 H3 X.xe I3 (Py fr3) Oj go) fun r s4 ⟨u,hr,h4⟩=>?_)
  subst hr
  refine wpAny_passesOwn hp (cu h4 fun _ s5 ⟨x,H5,I5,r5,y5,Tb,W7⟩=>?_)
  have I5':=I5.pinned (Py W7) (T.obj _ _ Tb)
  refine wpAny_passesOwn hp (cu (hg _ s5 σ3 H5 x u _ I5' r5 (step x H5 y5)) fun _ s6 ⟨σ6,H6,I6,q6⟩=>?_)
  refine wpAny_passesOwn hp (cu (hb _ s6 σ6 H6 _ I6 q6) fun f s7 q7=>?_)
  have again:∀ {σ7:St} {H7:Hp},Inv X (pins++sZ fp s5.heap) σ7 H7 s7->N σ7 H7->∃ m,m<n/\∃ i σ' H',Inv X pins σ' H' s7/\tn i s7.heap/\(∀ b∈fp,H' b=none)/\W i m σ' H':=fun {σ7 H7} I7 n7=>by
   obtain ⟨m',hm,w7⟩:=hN σ7 H7 n7
   refine⟨m',hm,i+1,σ7,H7,I7.fB,T.keep _ _ _ Tb fun b hb o e=>(I7.pin (b,o) (aau _ (aau _ (iH hb e)))).1,fun b hb=>?_,w7⟩
   obtain ⟨o,e,d⟩:=T.obj _ _ Tb b hb
   exact (I7.pin (b,o) (aau _ (aau _ (iH hb e)))).2.1
  cases f with
  | next=>obtain ⟨σ7,H7,I7,n7⟩:=q7;exact again I7 n7
  | cont=>obtain ⟨σ7,H7,I7,n7⟩:=q7;exact again I7 n7
  | brk=>obtain ⟨σ7,H7,I7,q7⟩:=q7;exact⟨σ7,H7,I7.fB,q7⟩
  | ret v=>obtain ⟨x7,σ7,H7,I7,r7,q7⟩:=q7;exact⟨x7,σ7,H7,I7.fB,r7,q7⟩
end
theorem Mc{K:Frag}{a:Addr}{xs:List V}{g:TG}{tb:TS}{D:Ends}{σ:St}{H:Hp}(Pv:Nat->St->Hp->Prop)(h0:Pv 0 σ H)(hl:∀ i σ H,i<=xs.length->Pv i σ H->aC K H a xs)
  (hs:∀ i x σ H,xs[i]?=some x->Pv i σ H->g x σ H fun σ2 H2=>tb { D with nx:=Pv (i+1),ct:=Pv (i+1),bk:=D.nx } σ2 H2) (hd:∀ σ H,Pv xs.length σ H->D.nx σ H) :
  ∃ W:Nat->Nat->St->Hp->Prop,(∃ m,W 0 m σ H)/\∀ i m σ H,W i m σ H ->
   ((HS K a).stop i H/\D.nx σ H)\/((HS K a).go i H/\∃ N:St->Hp->Prop,(∀ σ' H',N σ' H'->∃ m',m'<m/\W (i+1) m' σ' H')/\∀ x H',(HS K a).Eg i H x H'->g x σ H' fun σ2 H2=>tb { D with nx:=N,ct:=N,bk:=D.nx } σ2 H2):=by
 refine⟨fun i m σ H=>m=xs.length - i/\i<=xs.length/\Pv i σ H,⟨xs.length,by simp,aa0 _,h0⟩,?_⟩
 rintro i m σ H ⟨rfl,hi,p⟩
 have q:=hl i σ H hi p
 by_cases fk:i<xs.length
 ·refine .inr ⟨⟨xs,xs[i],q,by simp [fk]⟩,Pv (i+1),fun σ' H' p'=>⟨xs.length - (i+1),aaa,rfl,fk,p'⟩,fun x H' y=>?_⟩
  obtain ⟨e,y⟩:=y
  subst e
  exact hs i x σ _ (y xs q) p
 ·have e:i=xs.length:=by lia
  subst e
  exact .inl ⟨⟨xs,q,aah _⟩,hd σ H p⟩
theorem Fy{lo:Int}{n:Nat}{g:TG}{tb:TS}{D:Ends}{σ:St}{H:Hp}(Pv:Nat->St->Hp->Prop)(h0:Pv 0 σ H)
  (hs:∀ i σ H,i<n->Pv i σ H->g (.int (lo+i)) σ H fun σ2 H2=>tb { D with nx:=Pv (i+1),ct:=Pv (i+1),bk:=D.nx } σ2 H2) (hd:∀ σ H,Pv n σ H->D.nx σ H) :
  ∃ W:Nat->Nat->St->Hp->Prop,(∃ m,W 0 m σ H)/\∀ i m σ H,W i m σ H ->
   ((Fw lo n).stop i H/\D.nx σ H)\/((Fw lo n).go i H/\∃ N:St->Hp->Prop,(∀ σ' H',N σ' H'->∃ m',m'<m/\W (i+1) m' σ' H')/\∀ x H',(Fw lo n).Eg i H x H'->g x σ H' fun σ2 H2=>tb { D with nx:=N,ct:=N,bk:=D.nx } σ2 H2):=by
 refine⟨fun i m σ H=>m=n - i/\i<=n/\Pv i σ H,⟨n,by simp,aa0 _,h0⟩,?_⟩
 rintro i m σ H ⟨rfl,hi,p⟩
 by_cases fk:i<n
 ·refine .inr ⟨fk,Pv (i+1),fun σ' H' p'=>⟨n - (i+1),aaa,rfl,fk,p'⟩,fun x H' y=>?_⟩
  obtain ⟨e,y⟩:=y
  subst e y
  exact hs i σ _ fk p
 ·have e:i=n:=by lia
  subst e
  exact .inl ⟨aah _,hd σ H p⟩
abbrev R2:=V->V->Hp->VK->Prop
def gq(X:Cx)(f:Value->Value->Sem Value)(r:R2):Prop :=
 ∀ (pins:List (Addr×Obj)) (s:Shared) (σ:St) (H:Hp) (x y:V) (v u:Value) (Q:VK),Inv X pins σ H s->RelV x v->RelV y u->r x y H Q ->
  wpAny (model X.prog X.w) X.A (f v u) (EP X pins σ Q) X.xe s
def Yc(X:Cx)(f:Value->Sem Value)(r:V->Hp->VK->Prop):Prop :=
 ∀ (pins:List (Addr×Obj)) (s:Shared) (σ:St) (H:Hp) (x:V) (v:Value) (Q:VK),Inv X pins σ H s->RelV x v->r x H Q ->
  wpAny (model X.prog X.w) X.A (f v) (EP X pins σ Q) X.xe s
def bM(X:Cx)(f:Value)(r:List V->Hp->VK->Prop):Prop :=
 ∀ (pins:List (Addr×Obj)) (s:Shared) (σ:St) (H:Hp) (xs:List V) (us:List Value) (Q:VK),Inv X pins σ H s->Vals xs us->r xs H Q ->
  wpAny (model X.prog X.w) X.A (call f us) (EP X pins σ Q) X.xe s
def HW(r:R2)(ta tb:TE):TE:=fun σ H Q=>ta σ H fun x H1=>tb σ H1 fun y H2=>r x y H2 Q
def tUn(r:V->Hp->VK->Prop)(ta:TE):TE:=fun σ H Q=>ta σ H fun x H1=>r x H1 Q
def rI(C:Int->Int->Prop)(g:Int->Int->V):R2:=fun x y H Q=>∃ i j,x=.int i/\y=.int j/\C i j/\Q (g i j) H
def Md(g:Int->Int->V):R2:=fun x y H Q=>∃ i j,x=.int i/\y=.int j/\Q (g i j) H
def rU(g:Int->V):V->Hp->VK->Prop:=fun x H Q=>∃ i,x=.int i/\Q (g i) H
section
variable {X:Cx}{a b c:Expr}{ta tb tc:TE}{pos:Pos}
theorem Pz(ha:PE X a ta)(hb:PE X b tb){pins:List (Addr×Obj)}{s:Shared}{σ:St}{H:Hp}{R:V->V->Hp->Prop}(I:Inv X pins σ H s)
  (h:ta σ H fun x H1=>tb σ H1 fun y H2=>R x y H2) {Q:Value->Shared->Prop} {f:Value->Value->Sem Value}
  (hf:∀ v u s2 x y H2,Inv X pins σ H2 s2->RelV x v->RelV y u->R x y H2->wpAny (model X.prog X.w) X.A (f v u) Q X.xe s2) :
  wpAny (model X.prog X.w) X.A (eval a X.env) (fun v s₁=>wpAny (model X.prog X.w) X.A (eval b X.env) (fun u s₂=>wpAny (model X.prog X.w) X.A (f v u) Q X.xe s₂) X.xe s₁) X.xe s:=by
 refine cu (ha pins s σ H _ I h) fun v s1 ⟨x,H1,I1,r1,q1⟩=>?_
 refine cu (hb pins s1 σ H1 _ I1 q1) fun u s2 ⟨y,H2,I2,r2,q2⟩=>?_
 exact hf v u s2 x y H2 I2 r1 r2 q2
theorem aA{op:Operator}{r:R2}(ho:gq X (binaryOp op) r)(ha:PE X a ta)(hb:PE X b tb):PE X (.BinOp a op b pos) (HW r ta tb):=by
 intro pins s σ H Q I h
 exact wpAny_BinOp (Pz ha hb I h fun v u s2 x y H2 I2 rx ry q=>ho pins s2 σ H2 x y v u Q I2 rx ry q)
theorem xl(ho:Yc X (unaryOp op) r)(ha:PE X a ta):PE X (.UnaryOp op a pos) (tUn r ta):=by
 intro pins s σ H Q I h
 exact UnaryOp_ (cu (ha pins s σ H _ I h) fun v s1 ⟨x,H1,I1,r1,q1⟩=>ho pins s1 σ H1 x v Q I1 r1 q1)
theorem PB{f:Value->Value->Sem Value}{C:Int->Int->Prop}{g:Int->Int->Int}
  (rule:∀ (i j:Int) (t u:Tok) (s:Shared) (Q:Value->Shared->Prop) (E:Value->Shared->Prop),C i j->Q (.int (g i j) s.toks) { s with toks:=s.toks+1 }->wpAny (model X.prog X.w) X.A (f (.int i t) (.int j u)) Q E s) :
  gq X f (rI C fun i j=>.int (g i j)):=by
 intro pins s σ H x y v u Q I rx ry h
 obtain ⟨i,j,rfl,rfl,hc,q⟩:=h
 obtain ⟨t,rfl⟩:=rx
 obtain ⟨t',rfl⟩:=ry
 exact rule i j t t' s _ _ hc ⟨.int (g i j),H,I.tok _,⟨_,rfl⟩,q⟩
theorem T9{f:Value->Value->Sem Value}{g:Int->Int->Int}
  (rule:∀ (i j:Int) (t u:Tok) (s:Shared) (Q:Value->Shared->Prop) (E:Value->Shared->Prop),Q (.int (g i j) s.toks) { s with toks:=s.toks+1 }->wpAny (model X.prog X.w) X.A (f (.int i t) (.int j u)) Q E s) :
  gq X f (Md fun i j=>.int (g i j)):=by
 intro pins s σ H x y v u Q I rx ry h
 obtain ⟨i,j,rfl,rfl,q⟩:=h
 obtain ⟨t,rfl⟩:=rx
 obtain ⟨t',rfl⟩:=ry
 exact rule i j t t' s _ _ ⟨.int (g i j),H,I.tok _,⟨_,rfl⟩,q⟩
theorem PC{f:Value->Value->Sem Value}{g:Int->Int->Bool}
  (rule:∀ (i j:Int) (t u:Tok) (s:Shared) (Q:Value->Shared->Prop) (E:Value->Shared->Prop),Q (.bool (g i j)) s->wpAny (model X.prog X.w) X.A (f (.int i t) (.int j u)) Q E s) :
  gq X f (Md fun i j=>.bl (g i j)):=by
 intro pins s σ H x y v u Q I rx ry h
 obtain ⟨i,j,rfl,rfl,q⟩:=h
 obtain ⟨t,rfl⟩:=rx
 obtain ⟨t',rfl⟩:=ry
 exact rule i j t t' s _ _ ⟨.bl (g i j),H,I,rfl,q⟩
def Yd(i j:Int):Prop:=0<j/\j<1073741824
def HX(i j:Int):Prop:=(-(2 ^ 64)<i/\i<2 ^ 64)\/(-(2 ^ 64)<j/\j<2 ^ 64)
theorem HX.ok{i j:Int}(h:HX i j):IntMulOk i j:=by
 rcases h with ⟨h1,h2⟩|⟨h1,h2⟩
 ·exact .of_left (intBits_le_64 h1 h2)
 ·exact .of_right (intBits_le_64 h1 h2)
theorem lV:gq X (binaryOp .Add) (Md fun i j=>.int (i+j)):=T9 fun _ _ _ _ _ _ _ q=>add_int q
theorem lW:gq X (binaryOp .Sub) (Md fun i j=>.int (i - j)):=T9 fun _ _ _ _ _ _ _ q=>sub_int q
theorem oC:gq X (binaryOp .Mult) (rI HX fun i j=>.int (i*j)):=PB fun _ _ _ _ _ _ _ hc q=>mul_int q hc.ok
theorem eJ:gq X (binaryOp .FloorDiv) (rI Yd fun i j=>.int (i / j)):=PB fun i j _ _ _ _ _ hc q=>by
 have h1:(0:Int)<j:=hc.1
 have h2:j<1073741824:=hc.2
 exact floordiv_int aaa (by rw [aas i aaa];exact q) (.inl (PyProof.noPylong_small aaa))
theorem bE:gq X (binaryOp .Mod) (rI (fun _ j=>0<j) fun i j=>.int (i % j)):=PB fun i j _ _ _ _ _ hc q=>by
 have h1:(0:Int)<j:=hc
 exact mod_int' aaa (by rw [Int.fmod_eq_emod_of_nonneg i aaa];exact q)
theorem unI{f:Value->Sem Value}{g:Int->Int}
  (rule:∀ (i:Int) (t:Tok) (s:Shared) (Q:Value->Shared->Prop) (E:Value->Shared->Prop),Q (.int (g i) s.toks) { s with toks:=s.toks+1 }->wpAny (model X.prog X.w) X.A (f (.int i t)) Q E s) :
  Yc X f (rU fun i=>.int (g i)):=by
 intro pins s σ H x v Q I rx h
 obtain ⟨i,rfl,q⟩:=h
 obtain ⟨t,rfl⟩:=rx
 exact rule i t s _ _ ⟨.int (g i),H,I.tok _,⟨_,rfl⟩,q⟩
theorem oF:Yc X (unaryOp .USub) (rU fun i=>.int (-i)):=unI fun _ _ _ _ _ q=>neg_int q
end
def Ua:V->V->Bool
 | .cJ,.cJ=>true|.cJ,.int _=>true|.int _,.cJ=>true|.cJ,.bl _=>true|.bl _,.cJ=>true|.cJ,.str _=>true|.str _,.cJ=>true
 | .int _,.int _=>true|.bl _,.bl _=>true|.str _,.str _=>true|.HG _,.HG _=>true
 | .int _,.str _=>true|.str _,.int _=>true|.bl _,.str _=>true|.str _,.bl _=>true
 | _,_=>false
def Ye:R2:=fun x y H Q=>Ua x y=true/\Q (.bl (decide (x=y))) H
def Yf:R2:=fun x y H Q=>Ua x y=true/\Q (.bl (!decide (x=y))) H
theorem Eh{i j:Int}:decide (V.int i=V.int j)=(i == j):=by
 rw [Bool.eq_iff_iff]
 simp
theorem HY{i j:Bool}:decide (V.bl i=V.bl j)=(i == j):=by
 rw [Bool.eq_iff_iff]
 simp
theorem Ei:decide (V.str i=V.str j)=(i == j):=by
 rw [Bool.eq_iff_iff]
 simp
theorem Ej:decide (V.HG i=V.HG j)=(i.toList == j.toList):=by
 rw [Bool.eq_iff_iff]
 cases i
 cases j
 simp
section
variable {X:Cx}{a b c:Expr}{ta tb tc:TE}{pos:Pos}
theorem bc{k k':Bool}(I:Inv X pins σ H s)(q:Q (.bl k) H)(e:k=k'):EP X pins σ Q (.bool k') s:=by
 subst e
 exact⟨.bl k,H,I,rfl,q⟩
theorem bI:gq X (compareOp .Eq) Ye:=by
 intro pins s σ H x y v u Q I rx ry h
 obtain ⟨hs,q⟩:=h
 cases x with
 | cJ =>
  cases rx
  cases y with
  | cJ=>cases ry;exact PySem.EqNone.eq_none_none (bc I q (by simp))
  | bl j=>cases ry;exact PySem.EqNone.eq_none_bool (bc I q (by simp))
  | int j=>obtain ⟨t',rfl⟩:=ry;exact PySem.EqNone.eq_none_int (bc I q (by simp))
  | str j=>obtain ⟨t',rfl⟩:=ry;exact PySem.EqNone.eq_none_str (bc I q (by simp))
  | _=>exact absurd (show false=true from hs) Bool.false_ne_true
 | bl i =>
  cases rx
  cases y with
  | cJ=>cases ry;exact PySem.EqNone.eq_bool_none (bc I q (by simp))
  | bl j=>cases ry;exact eq_bool (bc I q HY)
  | str j=>obtain ⟨t',rfl⟩:=ry;exact PySem.EqMixed.eq_bool_str (bc I q (by simp))
  | _=>exact absurd (show false=true from hs) Bool.false_ne_true
 | int i =>
  obtain ⟨t,rfl⟩:=rx
  cases y with
  | cJ=>cases ry;exact PySem.EqNone.eq_int_none (bc I q (by simp))
  | int j=>obtain ⟨t',rfl⟩:=ry;exact eq_int (bc I q Eh)
  | str j=>obtain ⟨t',rfl⟩:=ry;exact PySem.EqMixed.eq_int_str (bc I q (by simp))
  | _=>exact absurd (show false=true from hs) Bool.false_ne_true
 | str i =>
  obtain ⟨t,rfl⟩:=rx
  cases y with
  | cJ=>cases ry;exact PySem.EqNone.eq_str_none (bc I q (by simp))
  | bl j=>cases ry;exact PySem.EqMixed.eq_str_bool (bc I q (by simp))
  | int j=>obtain ⟨t',rfl⟩:=ry;exact PySem.EqMixed.eq_str_int (bc I q (by simp))
  | str j=>obtain ⟨t',rfl⟩:=ry;exact eq_str (bc I q Ei)
  | _=>exact absurd (show false=true from hs) Bool.false_ne_true
 | HG i =>
  obtain ⟨t,rfl⟩:=rx
  cases y with
  | HG j=>obtain ⟨t',rfl⟩:=ry;exact PySem.W.eq_bytes (bc I q Ej)
  | _=>exact absurd (show false=true from hs) Bool.false_ne_true
 | _=>cases y <;> exact absurd (show false=true from hs) Bool.false_ne_true
theorem gu:gq X (compareOp .NotEq) Yf:=by
 intro pins s σ H x y v u Q I rx ry h
 obtain ⟨hs,q⟩:=h
 cases x with
 | cJ =>
  cases rx
  cases y with
  | cJ=>cases ry;exact PySem.EqNone.ne_none_none (bc I q (by simp))
  | bl j=>cases ry;exact PySem.EqNone.ne_none_bool (bc I q (by simp))
  | int j=>obtain ⟨t',rfl⟩:=ry;exact PySem.EqNone.ne_none_int (bc I q (by simp))
  | str j=>obtain ⟨t',rfl⟩:=ry;exact PySem.EqNone.ne_none_str (bc I q (by simp))
  | _=>exact absurd (show false=true from hs) Bool.false_ne_true
 | bl i =>
  cases rx
  cases y with
  | cJ=>cases ry;exact PySem.EqNone.ne_bool_none (bc I q (by simp))
  | bl j=>cases ry;exact ne_bool (bc I q (congrArg not HY))
  | str j=>obtain ⟨t',rfl⟩:=ry;exact PySem.EqMixed.ne_bool_str (bc I q (by simp))
  | _=>exact absurd (show false=true from hs) Bool.false_ne_true
 | int i =>
  obtain ⟨t,rfl⟩:=rx
  cases y with
  | cJ=>cases ry;exact PySem.EqNone.ne_int_none (bc I q (by simp))
  | int j=>obtain ⟨t',rfl⟩:=ry;exact ne_int (bc I q (congrArg not Eh))
  | str j=>obtain ⟨t',rfl⟩:=ry;exact PySem.EqMixed.ne_int_str (bc I q (by simp))
  | _=>exact absurd (show false=true from hs) Bool.false_ne_true
 | str i =>
  obtain ⟨t,rfl⟩:=rx
  cases y with
  | cJ=>cases ry;exact PySem.EqNone.ne_str_none (bc I q (by simp))
  | bl j=>cases ry;exact PySem.EqMixed.ne_str_bool (bc I q (by simp))
  | int j=>obtain ⟨t',rfl⟩:=ry;exact PySem.EqMixed.ne_str_int (bc I q (by simp))
  | str j=>obtain ⟨t',rfl⟩:=ry;exact ne_str (bc I q (congrArg not Ei))
  | _=>exact absurd (show false=true from hs) Bool.false_ne_true
 | HG i =>
  obtain ⟨t,rfl⟩:=rx
  cases y with
  | HG j=>obtain ⟨t',rfl⟩:=ry;exact PySem.W.ne_bytes (bc I q (congrArg not Ej))
  | _=>exact absurd (show false=true from hs) Bool.false_ne_true
 | _=>cases y <;> exact absurd (show false=true from hs) Bool.false_ne_true
theorem qg:gq X (compareOp .Lt) (Md fun i j=>.bl (decide (i<j))):=PC fun _ _ _ _ _ _ _ q=>lt_int q
theorem Ek:gq X (compareOp .LtE) (Md fun i j=>.bl (decide (i<=j))):=PC fun _ _ _ _ _ _ _ q=>le_int q
theorem El:gq X (compareOp .Gt) (Md fun i j=>.bl (decide (j<i))):=PC fun _ _ _ _ _ _ _ q=>gt_int q
theorem Fz:gq X (compareOp .In) (fun x y H Q=>∃ i j,x=.str i/\y=.str j/\Q (.bl (!(Builtin.Str.occurrences j i 0 j.length 1).isEmpty)) H):=by
 intro pins s σ H x y v u Q I rx ry h
 obtain ⟨i,j,rfl,rfl,q⟩:=h
 obtain ⟨t,rfl⟩:=rx
 obtain ⟨t',rfl⟩:=ry
 exact in_str (bc I q rfl)
theorem PD:gq X (compareOp .Is) (fun x y H Q=>y=.cJ/\Q (.bl (decide (x=.cJ))) H):=by
 intro pins s σ H x y v u Q I rx ry h
 obtain ⟨rfl,q⟩:=h
 cases ry
 refine is_none_gen (bc I q ?_)
 cases x <;> first
  | (cases rx;rfl)
  | (obtain ⟨t,rfl⟩:=rx;rfl)
theorem Me:gq X (compareOp .IsNot) (fun x y H Q=>y=.cJ/\Q (.bl (!decide (x=.cJ))) H):=by
 intro pins s σ H x y v u Q I rx ry h
 obtain ⟨rfl,q⟩:=h
 cases ry
 refine isnot_none_gen (bc I q ?_)
 cases x <;> first
  | (cases rx;rfl)
  | (obtain ⟨t,rfl⟩:=rx;rfl)
theorem tj(b:Expr)(h:op≠.In:=by decide)(h2:op≠.NotIn:=by decide):behindInMarks op b=false:=by
 have e1:(op == CmpOp.In)=false:=by cases op <;> first|rfl|exact absurd rfl h
 have e2:(op == CmpOp.NotIn)=false:=by cases op <;> first|rfl|exact absurd rfl h2
 cases b <;> simp [behindInMarks,e1,e2]
theorem Em(ho:gq X (compareOp op) r)(ha:PE X a ta)(hb:PE X b tb)(hm:behindInMarks op b=false):PE X (.Compare a [op] [b] pos) (HW r ta tb):=by
 intro pins s σ H Q I h
 exact wpAny_Compare1 (Pz ha hb I h fun v u s2 x y H2 I2 rx ry q=>ho pins s2 σ H2 x y v u Q I2 rx ry q) hm
def Eo(t:TE):TT:=fun σ H Q=>t σ H fun x H'=>∃ k,x=.bl k/\Q k H'
theorem gv(ho:gq X (compareOp op) r)(ha:PE X a ta)(hb:PE X b tb)(hm:behindInMarks op b=false):PT X (.Compare a [op] [b] pos) (Eo (HW r ta tb)):=by
 intro pins s σ H Q I h
 refine wpAny_isTrue_Compare1 (cu (ha pins s σ H _ I h) fun v s1 ⟨x,H1,I1,r1,q1⟩=>cu (hb pins s1 σ H1 _ I1 q1) fun u s2 ⟨y,H2,I2,r2,q2⟩ =>
  cu (ho pins s2 σ H2 x y v u _ I2 r1 r2 q2) fun c s3 ⟨z,H3,I3,r3,k,e,q3⟩=>?_) hm
 subst e
 cases r3
 exact wpAny_truthy_bool ⟨H3,I3,q3⟩
def HZ(r r':R2)(ta tb tc:TE):TE:=fun σ H Q=>ta σ H fun x H1=>tb σ H1 fun y H2=>r x y H2 fun z H3=>∃ k,z=.bl k /\
 (if k=true then tc σ H3 fun w' H4=>r' y w' H4 Q else Q (.bl false) H3)
theorem Ia(ho:gq X (compareOp op) r)(L6:gq X (compareOp Yg) r')(ha:PE X a ta)(hb:PE X b tb)(hc:PE X c tc)(hm:lastMarks [op,Yg] [b,c]=false:=by with_unfolding_all rfl):PT X (.Compare a [op,Yg] [b,c] pos) (Eo (HZ r r' ta tb tc)):=by
 intro pins s σ H Q I h
 refine isTrue_chain (cu (ha pins s σ H _ I h) fun v s1 ⟨x,H1,I1,r1,q1⟩=>test_link (cu (hb pins s1 σ H1 _ I1 q1) fun u s2 ⟨y,H2,I2,r2,q2⟩ =>
  cu (ho pins s2 σ H2 x y v u _ I2 r1 r2 q2) fun d s3 ⟨z,H3,I3,r3,k,e,q3⟩=>?_)) hm
 subst e
 cases r3
 refine wpAny_truthy_bool ?_
 cases k with
 | false =>
  obtain ⟨k',e',q'⟩:=q3
  cases e'
  exact ite_ff ⟨H3,I3,q'⟩
 | true =>
  refine ite_tt (test_last (cu (hc pins s3 σ H3 _ I3 q3) fun w' s4 ⟨z',H4,I4,r4,q4⟩=>cu (L6 pins s4 σ H4 y z' u w' _ I4 r2 r4 q4) fun d' s5 ⟨z2,H5,I5,r5,k2,e2,q5⟩=>?_))
  subst e2
  cases r5
  exact wpAny_truthy_bool ⟨H5,I5,q5⟩
theorem oG:(sizeLine:Nat)<2 ^ 63:=by rw [sizeLine_eq];decide
theorem Cs:gq X (binaryOp .Add) (fun x y H Q=>∃ i j,x=.str i/\y=.str j/\i.length+j.length<=sizeLine/\Q (.str (i++j)) H):=by
 intro pins s σ H x y v u Q I rx ry h
 obtain ⟨i,j,rfl,rfl,hz,q⟩:=h
 obtain ⟨t,rfl⟩:=rx
 obtain ⟨t',rfl⟩:=ry
 exact add_str (fun t' tk=>⟨.str (i++j),H,I.tok _,⟨_,rfl⟩,q⟩) hz
theorem vals1(r:Vals [x] us):∃ u,us=[u]/\RelV x u:=by
 cases r with
 | cons r1 r2=>cases r2;exact⟨_,rfl,r1⟩
theorem vals2(r:Vals [x,y] us):∃ u w',us=[u,w']/\RelV x u/\RelV y w':=by
 cases r with
 | cons r1 r2 =>
  cases r2 with
  | cons r3 r4=>cases r4;exact⟨_,_,rfl,r1,r3⟩
theorem Ib:bM X (.builtin "abs") (fun xs H Q=>∃ i,xs=[.int i]/\Q (.int (if i<0 then -i else i)) H):=by
 intro pins s σ H xs us Q I r h
 obtain ⟨i,rfl,q⟩:=h
 obtain ⟨u,rfl,t,rfl⟩:=vals1 r
 exact call_abs_int fun u tk=>⟨.int (if i<0 then -i else i),H,I.tok _,⟨_,rfl⟩,q⟩
theorem FA:bM X (.type "int") (fun xs H Q=>(∃ i,xs=[.int i]/\Q (.int i) H)\/∃ k,xs=[.bl k]/\Q (.int (if k then 1 else 0)) H):=by
 intro pins s σ H xs us Q I r h
 rcases h with ⟨i,rfl,q⟩|⟨k,rfl,q⟩
 ·obtain ⟨u,rfl,t,rfl⟩:=vals1 r
  exact call_int_int ⟨.int i,H,I,⟨_,rfl⟩,q⟩
 ·obtain ⟨u,rfl,r1⟩:=vals1 r
  cases r1
  exact call_int_bool ⟨.int (if k then 1 else 0),H,I.tok _,⟨_,rfl⟩,q⟩
theorem ye:bM X (.type "str") (fun xs H Q=>∃ i,xs=[.int i]/\i.natAbs.log2<1920/\Q (.str (toString i)) H):=by
 intro pins s σ H xs us Q I r h
 obtain ⟨i,rfl,hz,q⟩:=h
 obtain ⟨u,rfl,t,rfl⟩:=vals1 r
 exact PySem.P.str_of_int hz ⟨.str _,H,I.tok _,⟨_,rfl⟩,q⟩
end
structure Ct(h:Heap)(x dx C:Addr)(mA:Str->Option Value):Prop where
 obj:h.get? x=some (instObj C dx)
 ns:h.Ns1 dx mA
 ne:dx≠x
theorem xm{h:Heap}{dx:Addr}{mA:Str->Option Value}(n:h.Ns1 dx mA):∃ od,h.get? dx=some od/\∀ name,PySem.W.lookIn name od=some (mA name):=by
 obtain ⟨o,es,ep,ho,hd,hk,_,hm⟩:=n
 refine⟨o,ho,fun name=>?_⟩
 have e:=hm name
 unfold nsFind findBy at e
 rw [<- Array.find?_toList] at e
 unfold PySem.W.lookIn
 rw [hd]
 dsimp only
 split
 ·rename_i y q
  rw [q] at e
  exact congrArg some e
 ·rename_i q
  rw [q] at e
  have a:es.toList.any (·.refKey)=false:=by
   rw [List.any_eq_false]
   intro y hy
   obtain ⟨z,t,PF⟩:=hk y (Array.mem_toList_iff.mp hy)
   simp [DictEntry.refKey,PF]
  have a':¬ es.toList.any (·.refKey)=true:=by rw [a];exact Bool.false_ne_true
  rw [if_neg a']
  exact congrArg some e
theorem Ct.look(I:Ct h x dx C mA):∃ od,PySem.W.InstAt h x (instObj C dx) C (some od)/\∀ name,PySem.W.lookIn name od=some (mA name) :=
 let ⟨od,ho,hl⟩:=xm I.ns
 ⟨od,⟨I.obj,rfl,rfl,ho⟩,hl⟩
section
variable {prog:Program}{w:World}{A:Around}{E:Value->Shared->Prop}{s:Shared}{K:Frag}{x dx C f:Addr}{mA:Str->Option Value}{name:Str}{v:Value}
theorem get_map{expr:Bool}(X:K.In s.heap)(I:Ct s.heap x dx C mA)(hg:plainGet K C name=true)(hh:hasDictIn K C=true)(ha:findIn K (.ref C) name=some none)(hv:mA name=some v)(hv':handedIn v=true)(h:Q v { s with toks:=s.toks+1 }):
  wpAny (model prog w) A (getAttr (.ref x) name expr) Q E s:=by
 obtain ⟨od,J,hl⟩:=I.look
 exact PySem.W.get_value X J (plainGet_of hg).1 (PySem.W.findObj_own hh ha rfl (by rw [hl,hv])) hv' h
theorem Ic(X:K.In s.heap)(I:Ct s.heap x dx C mA)(hg:plainGet K C name=true)(hf:findIn K (.ref C) name=some (some (.ref f)))(ht:isFn K (.ref f)=true)(hv:mA name=none)(h:Q (.ref f,[.ref x]) s):
  wpAny (model prog w) A (getMethod (.ref x) name pl) Q E s:=by
 obtain ⟨od,J,hl⟩:=I.look
 exact PySem.W.method_fn X J (plainGet_of hg).1 (plainGet_of hg).2 hf (beq_iff_eq.mp ht) (by show (PySem.W.lookIn name od).map (·.isSome)=some false;rw [hl,hv];rfl) h
theorem Mf(X:K.In s.heap)(I:Ct s.heap x dx C mA)(hs:findIn K (.ref C) "__setattr__"=some (some (.builtin "object.__setattr__")))(hp:plainOver K C=true)(ht:takerIn K C name=some none)(hh:hasDictIn K C=true)(hw:PySem.Within mA ns)(lI:ns.length<=sizeLine)(h:∀ h',Ct h' x dx C (fun y=>if y=name then some v else mA y)->Heap.SameBut dx s.heap h'->Q () { s with heap:=h',toks:=s.toks+2 }):
  wpAny (model prog w) A (setAttr (.ref x) name v) Q E s:=by
 obtain ⟨od,J,hl⟩:=I.look
 refine PySem.W.set_plain X J hs (PySem.W.osa_open (s:={ s with toks:=s.toks+1 }) (r:=none) X J hp ht fun b=>?_)
 obtain ⟨cd,hc,HL⟩:=PySem.W.any_some hh
 have hx:s.heap.get? x=some ⟨.ref C,some dx,.plain,#[]⟩:=I.obj
 refine aac (aap (aac (aac (wpAny_loadPart hx (aac (PySem.W.Looks.here (s:={ s with toks:=s.toks+1 }) (PySem.W.looks_clsIn X hc) ?_))))))
 rw [HL]
 refine aap (a:=some dx) (aac (aap (aac ?_)))
 refine wpAny_nsSet1 (s:={ s with toks:=s.toks+1 }) I.ns fun h' PH iC=>?_
 obtain ⟨oD,esD,epD,hoD,hdD,hcD⟩:=PH.count (PySem.Within.cons name v hw)
 refine aac (wpAny_lookBehind hoD (by rw [hdD];exact pastItsLine_dict (aag hcD (by rw [length_cons];lia))) ?_)
 exact aap (h _ ⟨(iC.2 _ (Ne.symm I.ne)).trans I.obj,PH,I.ne⟩ iC)
theorem Ie(X:K.In s.heap)(hm:makesIn K C=true)(hi:findIn K (.ref C) "__init__"=some (some (.ref f)))(hf:typeIn K (.ref f)=some (.type "function"))(h:codeAny (model prog w) (A.under (.builtin "type.__call__" ⟨.ref C::vs,kw⟩)) (.call (.ref f) ⟨.ref (s.heap.objs.size+1)::vs,kw⟩) (PySem.W.InitBack (s.heap.objs.size+1) R)
   { s with heap:=(s.heap.push emptyDict).push (instObj C s.heap.objs.size) }):
  codeAny (model prog w) A (.call (.ref C) ⟨vs,kw⟩) R s:=by
 obtain ⟨hh,g,d,t,os⟩:=s
 exact PySem.W.make_core (PySem.W.makes_of X hm) (PySem.W.looks_findIn X hi) (fun self=>PySem.W.bind_fn X self hf) (.inl rfl) h
end
def d9(f:Str)(v:V):List (Str×V)->List (Str×V)
 | []=>[(f,v)]
 | (g,x)::r=>if g=f then (g,v)::r else (g,x)::d9 f v r
theorem qh(f g:Str)(v:V):∀ fs:List (Str×V),(d9 f v fs).lookup g=if g=f then some v else fs.lookup g
 | []=>by
  show List.lookup g [(f,v)]=_
  by_cases h:g=f
  ·have hb:(g == f)=true:=beq_iff_eq.mpr h
   simp only [List.lookup,hb,if_pos h]
  ·have hb:(g == f)=false:=beq_eq_false_iff_ne.mpr h
   simp only [List.lookup,hb,if_neg h]
 | (k,x)::r=>by
  have ih:=qh f g v r
  rw [show d9 f v ((k,x)::r)=(if k=f then (k,v)::r else (k,x)::d9 f v r) from rfl]
  by_cases hk:k=f
  ·rw [if_pos hk]
   by_cases h:g=k
   ·have hb:(g == k)=true:=beq_iff_eq.mpr h
    simp only [List.lookup,hb,if_pos (h.trans hk)]
   ·have hb:(g == k)=false:=beq_eq_false_iff_ne.mpr h
    simp only [List.lookup,hb,if_neg (fun e:g=f=>h (e.trans hk.symm))]
  ·rw [if_neg hk]
   by_cases h:g=k
   ·have hb:(g == k)=true:=beq_iff_eq.mpr h
    simp only [List.lookup,hb,if_neg (fun e:g=f=>hk (h.symm.trans e))]
   ·have hb:(g == k)=false:=beq_eq_false_iff_ne.mpr h
    simp only [List.lookup,hb]
    exact ih
theorem oH(f:Str)(v:V):∀ fs:List (Str×V),f∈(d9 f v fs).map (·.1)/\∀ g,g∈fs.map (·.1)->g∈(d9 f v fs).map (·.1)
 | []=>⟨by simp [d9],fun g h=>by simp at h⟩
 | (k,x)::r=>by
  obtain ⟨i1,i2⟩:=oH f v r
  rw [show d9 f v ((k,x)::r)=(if k=f then (k,v)::r else (k,x)::d9 f v r) from rfl]
  by_cases hk:k=f
  ·rw [if_pos hk]
   subst hk
   exact⟨by simp,fun g h=>by simpa using h⟩
  ·rw [if_neg hk]
   refine⟨?_,fun g h=>?_⟩
   ·rw [map_cons]
    exact aaB _ i1
   ·rw [map_cons] at h ⊢
    rcases aaC.mp h with e|e
    ·exact aaC.mpr (.inl e)
    ·exact aaB _ (i2 g e)
theorem qi(f:Str)(v:V):∀ fs:List (Str×V),(d9 f v fs).length<=fs.length+1
 | []=>by simp [d9]
 | (k,x)::r=>by
  have ih:=qi f v r
  rw [show d9 f v ((k,x)::r)=(if k=f then (k,v)::r else (k,x)::d9 f v r) from rfl]
  by_cases hk:k=f
  ·rw [if_pos hk,length_cons,length_cons];lia
  ·rw [if_neg hk,length_cons,length_cons];lia
theorem lQ.Ep(r:lQ (some v) o):∃ u,o=some u/\RelV v u:=by
 cases o with
 | none=>exact (show False from r).elim
 | some u=>exact⟨u,rfl,r⟩
theorem lQ.none_of(r:lQ none o):o=none:=by
 cases o with
 | none=>rfl
 | some u=>exact (show False from r).elim
theorem FC(r:RelV v u):handedIn u=true:=by
 cases v with
 | cJ=>cases (show u=Value.none from r);rfl
 | bl b=>cases (show u=Value.bool b from r);rfl
 | int i=>obtain ⟨t,e⟩:=(show ∃ t,u=Value.int i t from r);cases e;rfl
 | str x=>obtain ⟨t,e⟩:=(show ∃ t,u=Value.str x t from r);cases e;rfl
 | HG b=>obtain ⟨t,e⟩:=(show ∃ t,u=Value.bytes b t from r);cases e;rfl
 | Pn b=>obtain ⟨t,e⟩:=(show ∃ t,u=Value.float b t from r);cases e;rfl
 | ref a=>cases (show u=Value.ref a from r);rfl
 | ty n=>cases (show u=Value.type n from r);rfl
section
variable {P:Program}{w:World}{H H':Hp}{h h':Heap}{a C dx:Addr}{fs X4:List (Str×V)}
theorem sA(bh:gO P w H h)(e:H a=some (.ins C dx fs)):∃ mA,Ct h a dx C mA/\(∀ f,lQ (fs.lookup f) (mA f))/\PySem.Within mA (fs.map (·.1))/\fs.length<=1000/\H dx=some (.own a):=by
 obtain ⟨d,z,ne,ob,mA,n,r,q⟩:=(show cv P w H h a (.ins C dx fs) from bh a _ e)
 exact⟨mA,⟨ob,n,ne⟩,r,q,z,d⟩
end
structure Er(K:Frag)(C:Addr):Prop where
 pg:plainGet K C Str.empty=true
 hd:hasDictIn K C=true
 po:plainOver K C=true
 sa:findIn K (.ref C) "__setattr__"=some (some (.builtin "object.__setattr__"))
theorem Er.get{K:Frag}{C:Addr}(c:Er K C)(f:Str):plainGet K C f=true:=c.pg
def dR(K:Frag)(C:Addr)(f:Str):Prop:=findIn K (.ref C) f=some none
theorem dR.Ub{K:Frag}{C:Addr}{f:Str}(n:dR K C f):takerIn K C f=some none:=by
 unfold takerIn
 rw [show findIn K (.ref C) f=some none from n]
 rfl
structure Meth(K:Frag)(C:Addr)(m:Str)(f:Addr):Prop where
 at_:findIn K (.ref C) m=some (some (.ref f))
 fn:isFn K (.ref f)=true
 kp:PySem.W.keepIn K (.ref f)=true
section
variable {X:Cx}{pins:List (Addr×Obj)}{σ:St}{H:Hp}{s:Shared}{a C dx:Addr}{fs:List (Str×V)}{f:Str}{v:V}{A:Around}{E:Value->Shared->Prop}
theorem Cu{b:Bool}(I:Inv X pins σ H s)(e:H a=some (.ins C dx fs))(c:Er X.K C)(n:dR X.K C f)(l:fs.lookup f=some v)(h:∀ u s',Inv X pins σ H s'->RelV v u->Q u s'):wpAny (model X.prog X.w) A (getAttr (.ref a) f b) Q E s:=by
 obtain ⟨mA,O,r,_,_,_⟩:=sA I.bh e
 obtain ⟨u,hu,ru⟩:=lQ.Ep (v:=v) (o:=mA f) (by rw [<- l];exact r f)
 exact get_map I.jq O (c.get f) c.hd n hu (FC ru) (h u _ (I.tok _) ru)
theorem Cv(I:Inv X pins σ H s)(e:H a=some (.ins C dx fs))(c:Er X.K C)(k:Meth X.K C m g)(l:fs.lookup m=none)(h:Q (.ref g,[.ref a]) s):wpAny (model X.prog X.w) A (getMethod (.ref a) m pl) Q E s:=by
 obtain ⟨mA,O,r,_,_,_⟩:=sA I.bh e
 have hn:mA m=none:=lQ.none_of (by rw [<- l];exact r m)
 exact Ic I.jq O (c.get m) k.at_ k.fn hn h
theorem Cy(I:Inv X pins σ H s)(e:H a=some (.ins C dx fs))(c:Er X.K C)(n:dR X.K C f)(hl:fs.length<1000)(ry:RelV y u)(h:∀ s',Inv X pins σ (upd H a (.ins C dx (d9 f y fs))) s'->Q () s'):wpAny (model X.prog X.w) A (setAttr (.ref a) f u) Q E s:=by
 obtain ⟨mA,O,r,wi,_,ho⟩:=sA I.bh e
 have hz:(fs.map (·.1)).length<=sizeLine:=by rw [aaz,sizeLine_eq];lia
 refine Mf I.jq O c.sa c.po n.Ub c.hd wi hz fun h' O' sb=>h _ ?_
 have hd:∃ o,h'.get? dx=some o:=let ⟨o,_,_,e',_⟩:=O'.ns;⟨o,e'⟩
 refine I.write (x:=a) (e:=dx) (by rw [e];exact True.intro) (.inr ho) (fun b q hb z=>(sb.2 b hb).trans z) hd ?_
 refine⟨by rw [ay O.ne];exact ho,?_,O.ne,O'.obj,_,O'.ns,fun g=>?_,fun g hg=>?_⟩
 ·have:=qi f y fs;lia
 ·show lQ ((d9 f y fs).lookup g) (if g=f then some u else mA g)
  rw [qh]
  by_cases q:g=f
  ·rw [if_pos q,if_pos q];exact ry
  ·rw [if_neg q,if_neg q];exact r g
 ·by_cases q:g=f
  ·rw [q];exact (oH f y fs).1
  ·refine (oH f y fs).2 g (wi g fun z=>hg ?_)
   show (if g=f then some u else mA g)=none
   rw [if_neg q];exact z
theorem Inv.made(I:Inv X pins σ H s):Inv X pins σ (upd (upd H s.heap.objs.size (.own (s.heap.objs.size+1))) (s.heap.objs.size+1) (.ins C s.heap.objs.size []))
  { s with heap:=(s.heap.push emptyDict).push (instObj C s.heap.objs.size) }:=by
 have e1:(s.heap.push emptyDict).get? s.heap.objs.size=some emptyDict:=aaf s.heap rfl
 have e2:((s.heap.push emptyDict).push (instObj C s.heap.objs.size)).get? (s.heap.objs.size+1)=some (instObj C s.heap.objs.size):=by
  have:=aaf (s.heap.push emptyDict) (o:=instObj C s.heap.objs.size) rfl
  rwa [Heap.size_push] at this
 have e3:(s.heap.push emptyDict).Ns s.heap.objs.size (fun _=>none):=⟨emptyDict,#[],_,e1,rfl,(fun e he=>absurd he (by simp)),fun _=>rfl⟩
 have I1:=I.laid (a:=s.heap.objs.size) (o:=.own (s.heap.objs.size+1)) (h':=s.heap.push emptyDict) (t':=s.toks) (fun b u q=>aab _ q) (aah _) ⟨_,e1⟩
 refine I1.laid (a:=s.heap.objs.size+1) (o:=.ins C s.heap.objs.size []) (t':=s.toks) (fun b u q=>aab _ q) (le_of_eq (Heap.size_push _ _)) ?_
 have ne:s.heap.objs.size≠s.heap.objs.size+1:=aa1 (lt_succ_self _)
 refine⟨by rw [ay ne,aw],aa0 _,ne,e2,fun _=>none,(Heap.Ns1.of_empty e3).at fun o q=>aab _ q,fun _=>True.intro,fun y hy=>absurd rfl hy⟩
theorem Mg(hb:attributeBase e f env (eval e env)=eval e env)(h:wpAny (model prog w) A (eval e env) (fun o s₁=>wpAny (model prog w) A (getAttr o f true) Q E s₁) E s):wpAny (model prog w) A (eval (.Attribute e f pos) env) Q E s :=
 Attribute_any_ h (by rw [arm_eval_Attribute,hb])
end
def PL(K:Frag)(ta:TE)(f:Str):TE:=fun σ H Q=>ta σ H fun x H1=>∃ a C dx fs v,x=.ref a/\H1 a=some (.ins C dx fs)/\Er K C/\dR K C f/\fs.lookup f=some v/\Q v H1
def PM(K:Frag)(ta tv:TE)(f:Str):TS:=fun D σ H=>tv σ H fun y H1=>ta σ H1 fun x H2=>∃ a C dx fs,x=.ref a/\H2 a=some (.ins C dx fs)/\Er K C/\dR K C f/\fs.length<1000 /\
 D.nx σ (upd H2 a (.ins C dx (d9 f y fs)))
section
variable {X:Cx}{o e value:Expr}{f:Str}{pos pos' Ai:Pos}{ta tv:TE}
theorem PN(he:PE X e ta)(hb:attributeBase e f X.env (eval e X.env)=eval e X.env):PE X (.Attribute e f pos) (PL X.K ta f):=by
 intro pins s σ H Q I h
 refine Mg hb (cu (he pins s σ H _ I h) fun u s1 ⟨x,H1,I1,rx,a,C,dx,fs,v,ex,ea,c,n,l,q⟩=>?_)
 subst ex
 obtain rfl:u=Value.ref a:=rx
 exact Cu I1 ea c n l fun u' s2 I2 ru=>⟨v,H1,I2,ru,q⟩
theorem PQ(ha:PE X o ta)(hv:PE X value tv)(hs:swapsWith value (some (.Attribute o f pos')) pos.line X.env=pure false):PS X (.Assign [.Attribute o f pos'] value pos) (PM X.K ta tv f):=by
 intro pins s σ H D I h
 refine plainObj_wpAny_Assign_Attribute (cu (hv pins s σ H _ I h) fun u s1 ⟨y,H1,I1,ry,q⟩=>cu (ha pins s1 σ H1 _ I1 q) fun ov s2 ⟨x,H2,I2,rx,a,C,dx,fs,ex,ea,c,n,l,q2⟩=>?_) hs
 subst ex
 obtain rfl:ov=Value.ref a:=rx
 exact Cy I2 ea c n l ry fun s3 I3=>⟨σ,_,I3,q2⟩
end
section
variable {X:Cx}{pins:List (Addr×Obj)}{σ:St}{H:Hp}{s:Shared}{A:Around}{E:Value->Shared->Prop}{Q:Value->Shared->Prop}{c:Value}{b:Bool}
inductive oI(K:Frag)(H:Hp):V->Value->Prop where
 | cJ:oI K H .cJ (.type "NoneType")
 | bl (x:Bool):oI K H (.bl x) (.type "bool")
 | int (i:Int):oI K H (.int i) (.type "int")
 | str (x:Str):oI K H (.str x) (.type "str")
 | Pn (x:UInt64):oI K H (.Pn x) (.type "float")
 | lst {a:Addr} {xs:List V} (e:H a=some (.lst xs)):oI K H (.ref a) (.type "list")
 | wb {a:Addr} {o:Obj} {xs:List V} (e:H a=some (.wb o (.lst xs))):oI K H (.ref a) (.type "list")
 | tup {a:Addr} {xs:List V} (e:H a=some (.tup xs)):oI K H (.ref a) (.type "tuple")
 | dK {a:Addr} {fv:List (Key×V)} (e:H a=some (.dK fv)):oI K H (.ref a) (.type "dict")
 | dT {a:Addr} {fv:List (List Key×V)} (e:H a=some (.dT fv)):oI K H (.ref a) (.type "dict")
 | ins {a C dx:Addr} {fs:List (Str×V)} (e:H a=some (.ins C dx fs)) (cl:Er K C) (ha:findIn K (.ref C) "__class__"=some (some (.builtin "object.__class__")))
   (hn:specialIn K (.builtin "object.__class__") "__get__"=some (some (.builtin "getset_descriptor.__get__"))) (htk:takesIn K (.builtin "object.__class__")=some true)
   (hm:mroIn K C (.type "object")=some true):oI K H (.ref a) (.ref C)
theorem FD(I:Inv X pins σ H s)(rx:RelV x u)(ty:oI X.K H x t)(e:PySem.W.kitOne X.K t c=some b)(h:∀ tk,Q (.bool b) { s with toks:=tk }):
  wpAny (model X.prog X.w) A (call (.builtin "isinstance") [u,c]) Q E s:=by
 cases ty with
 | cJ=>cases (show u=Value.none from rx);exact PySem.W.kia_one PySem.W.kitx_none I.jq True.intro e (fun z=>nomatch z) h
 | bl y=>cases (show u=Value.bool y from rx);exact PySem.W.kia_one PySem.W.kitx_bool I.jq True.intro e (fun z=>nomatch z) h
 | int i=>obtain ⟨t,q⟩:=(show ∃ t,u=Value.int i t from rx);cases q;exact PySem.W.kia_one PySem.W.kitx_int I.jq True.intro e (fun z=>nomatch z) h
 | str y=>obtain ⟨t,q⟩:=(show ∃ t,u=Value.str y t from rx);cases q;exact PySem.W.kia_one PySem.W.kitx_str I.jq True.intro e (fun z=>nomatch z) h
 | Pn y=>obtain ⟨t,q⟩:=(show ∃ t,u=Value.float y t from rx);cases q;exact PySem.W.kia_one PySem.W.kitx_float I.jq True.intro e (fun z=>nomatch z) h
 | @lst a xs ea =>
  cases (show u=Value.ref a from rx)
  obtain ⟨_,_,n,_,h1⟩:=(show cv X.prog X.w H s.heap a (.lst xs) from I.bh a _ ea)
  exact PySem.W.kia_one kitx_list I.jq ⟨_,h1,rfl⟩ e (fun z=>nomatch z) h
 | @wb a ob xs ea =>
  cases (show u=Value.ref a from rx)
  obtain ⟨_,_,_,n,_,h1⟩:=(show cv X.prog X.w H s.heap a (.wb ob (.lst xs)) from I.bh a _ ea)
  exact PySem.W.kia_one kitx_list I.jq ⟨_,h1,rfl⟩ e (fun z=>nomatch z) h
 | @tup a xs ea =>
  cases (show u=Value.ref a from rx)
  obtain ⟨_,_,_,p⟩:=(show cv X.prog X.w H s.heap a (.tup xs) from I.bh a _ ea)
  obtain ⟨o,h1,h2,_⟩:=p
  exact PySem.W.kia_one kitx_tuple I.jq ⟨o,h1,h2⟩ e (fun z=>nomatch z) h
 | @dK a fv ea =>
  cases (show u=Value.ref a from rx)
  obtain ⟨_,_,vs,_,p⟩:=(show cv X.prog X.w H s.heap a (.dK fv) from I.bh a _ ea)
  obtain ⟨o,es,ep,h1,h2,_⟩:=p
  exact PySem.W.kia_one kitx_dict I.jq ⟨o,h1,h2.1⟩ e (fun z=>nomatch z) h
 | @dT a fv ea =>
  cases (show u=Value.ref a from rx)
  obtain ⟨_,_,xs,_,o,es,ep,h1,h2,_⟩:=(show cv X.prog X.w H s.heap a (.dT fv) from I.bh a _ ea)
  exact PySem.W.kia_one kitx_dict I.jq ⟨o,h1,h2.1⟩ e (fun z=>nomatch z) h
 | @ins a C dx fs ea cl ha hn htk hm =>
  cases (show u=Value.ref a from rx)
  obtain ⟨mA,O,_⟩:=sA I.bh ea
  obtain ⟨od,J,_⟩:=O.look
  exact PySem.W.kia_one (PySem.W.kitx_own (cl.get _) cl.hd ha hn htk hm) I.jq J e (fun z=>nomatch z) h
end
structure bK(k:Nat)(A:Around):Prop where
 hd:A.handled=none
 dp:A.depth+3*k+5<recursionLimit
 un:A.units+16*k+200<cLine
theorem bK.mono{j k:Nat}(r:bK k A)(h:j<=k):bK j A:=⟨r.hd,by have:=r.dp;lia,by have:=r.un;lia⟩
theorem bK.deeper{k:Nat}(r:bK (k+1) A)(env:Env):bK k (A.deeper env) :=
 ⟨r.hd,by have:=r.dp;show A.depth+1+3*k+5<_;lia,by have:=r.un;show A.units+3+16*k+200<_;lia⟩
theorem bK.in1{k:Nat}(r:bK (k+1) A):bK k A.in1 :=
 ⟨r.hd,by have:=r.dp;show A.depth+3*k+5<_;lia,by have:=r.un;show A.units+1+16*k+200<_;lia⟩
theorem Cz {A:Around} {C:Addr} {us:List Value} {kw:List (Str×Value)}:(A.under (.builtin "type.__call__" ⟨.ref C::us,kw⟩)).depth=A.depth+1:=by
 first|rfl|simp [Around.under,Code.weight,Code.isCreation,Code.isGuard,Code.isCaller,Code.frames,Code.isFrame,guardIds]
theorem CA {A:Around} {C:Addr} {us:List Value} {kw:List (Str×Value)}:(A.under (.builtin "type.__call__" ⟨.ref C::us,kw⟩)).units=A.units+1:=by
 first|rfl|simp [Around.under,Code.cUnits,Code.frames,Code.isFrame]
theorem bK.make{k:Nat}(r:bK (k+1) A)(C:Addr)(us:List Value)(kw:List (Str×Value)):bK k (A.under (.builtin "type.__call__" ⟨.ref C::us,kw⟩)) :=
 ⟨r.hd,by have:=r.dp;rw [Cz];lia,by have:=r.un;rw [CA];lia⟩
theorem bK.depth{k:Nat}(r:bK k A):A.depth<recursionLimit:=by have:=r.dp;lia
theorem bK.units{k:Nat}(r:bK k A):A.units+64<cLine:=by have:=r.un;lia
def Aj:TA:=fun _ H Q=>Q [] H
def xn(ta:TE)(tr:TA):TA:=fun σ H Q=>ta σ H fun x H1=>tr σ H1 fun xs H2=>Q (x::xs) H2
section
variable {X:Cx}{e:Expr}{es:List Expr}{te:TE}{t:TA}{pos:Pos}
theorem af:PA X [] Aj:=fun _ _ _ _ H Q I h=>Calls.spliced_nil ⟨[],H,I,.nil,h⟩
theorem aa(ha:PE X e te)(hr:PA X es t)(hs:starEach (e::es) X.env=(false,eval e X.env)::starEach es X.env:=by rfl):PA X (e::es) (xn te t):=by
 intro pos pins s σ H Q I h
 rw [hs]
 show wpAny _ _ (spliced ((false,eval e X.env)::backTo pos (starEach es X.env))) _ _ s
 refine Calls.spliced_cons (cu (ha pins s σ H _ I h) fun u s1 ⟨x,H1,I1,r1,q1⟩=>?_)
 exact cu (hr pos pins s1 σ H1 _ I1 q1) fun us s2 ⟨xs,H2,I2,r2,q2⟩=>⟨x::xs,H2,I2,.cons r1 r2,q2⟩
def Uc(t:TA):TE:=fun σ H Q=>t σ H fun xs H1=>xs.length<=sizeLine/\∀ p,H1 p=none->Q (.ref p) (upd H1 p (.tup xs))
def Mh(t:TA):TE:=fun σ H Q=>t σ H fun xs H1=>xs.length<=sizeLine/\∀ p,H1 p=none->Q (.ref p) (upd H1 p (.lst xs))
theorem bA{x1}(h:PA X es t):PE X (.Tuple es x1 pos) (Uc t):=by
 intro pins s σ H Q I hq
 refine wpAny_Tuple_spliced (cu (h pos pins s σ H _ I hq) fun us s1 ⟨xs,H1,I1,r,z,q⟩=>⟨by rw [<- r.length];exact z,?_⟩)
 have hf:H1 s1.heap.objs.size=none:=I1.bh.fresh (aah _)
 refine⟨.ref s1.heap.objs.size,upd H1 s1.heap.objs.size (.tup xs),I1.laid (t':=s1.toks) (fun b u e=>aab _ e) (aah _) ?_,rfl,q _ hf⟩
 exact⟨z,us,r,⟨_,aaf _ rfl,rfl,_,rfl⟩⟩
theorem bP(h:PA X es t):PE X (.List es pos) (Mh t):=by
 intro pins s σ H Q I hq
 refine wpAny_List_spliced (cu (h pos pins s σ H _ I hq) fun us s1 ⟨xs,H1,I1,r,z,q⟩=>⟨by rw [<- r.length];exact z,?_⟩)
 have hf:H1 s1.heap.objs.size=none:=I1.bh.fresh (aah _)
 refine⟨.ref s1.heap.objs.size,upd H1 s1.heap.objs.size (.lst xs),I1.laid (t':=s1.toks) (fun b u e=>aab _ e) (aah _) ?_,rfl,q _ hf⟩
 exact⟨z,us,0,r,aaf _ rfl⟩
end
abbrev Sp:=List V->Hp->VK->XK->Prop
abbrev CB:=List Env->Hp->Shared->XK->Value->Shared->Prop
structure rE(P:Program)(w:World)(K:Frag)(mg:Str->Option Value)(base:Heap)(A:Around)(outer:List Env)(s:Shared)(H:Hp):Prop where
 frames:A.frames=some outer
 mod:Mod K mg base
 bs:∀ b o,base.get? b=some o->s.heap.get? b=some o/\H b=none
 Ci:base.objs.size<=s.heap.objs.size
 iE:s.heap.FunFrames base outer
 Ft:∀ b∈sx outer,H b=none
 bh:gO P w H s.heap
 bare:AllBare s.gens
def CE(outer:List Env)(P:Program)(w:World)(H:Hp)(s:Shared)(Q:VK)(u:Value)(s':Shared):Prop :=
 ∃ v H',s'.os=s.os/\AllBare s'.gens/\Un (sx outer) [] H H' s.heap s'.heap/\gO P w H' s'.heap/\RelV v u/\Q v H'
def CR(CX:CB)(outer:List Env)(P:Program)(w:World)(H:Hp)(s:Shared)(Q:VK)(E:XK)(r:Result)(s':Shared):Prop :=
 match r with
 | .ok (.ret u)=>CE outer P w H s Q u s'
 | .ok _=>False
 | .error e=>CX outer H s E e s'
structure lh(P:Program)(w:World)(K:Frag)(mg:Str->Option Value)(base:Heap)(CX:CB)(k:Nat)(f:Addr)(fd:FuncData)(ps:List Str)(sp:Sp):Prop where
 len:∀ vs H Q E,sp vs H Q E->vs.length=ps.length
 run:∀ (A:Around) (outer:List Env) (s:Shared) (H:Hp) (args:Args) (us:List Value) (vs:List V) (Q:VK) (E:XK),bK k A->rE P w K mg base A outer s H->BindsTo s fd args (ps.zip us)->Vals vs us->sp vs H Q E ->
  codeAny (model P w) A (.call (.ref f) args) (CR CX outer P w H s Q E) s
theorem rE.make{P:Program}{w:World}{K:Frag}{mg:Str->Option Value}{base:Heap}{A:Around}{outer:List Env}{s:Shared}{H:Hp}(e:rE P w K mg base A outer s H)(C:Addr)(us:List Value)(kw:List (Str×Value)) :
  rE P w K mg base (A.under (.builtin "type.__call__" ⟨.ref C::us,kw⟩)) outer s H:=⟨by first|exact e.frames|(simpa [Around.under,Code.envs,Code.isFrame,pushEnvs] using e.frames),e.mod,e.bs,e.Ci,e.iE,e.Ft,e.bh,e.bare⟩
section
variable {X:Cx}{pins:List (Addr×Obj)}{σ:St}{H:Hp}{s s':Shared}
theorem Inv.Mi(I:Inv X pins σ H s):rE X.prog X.w X.K X.mg X.base X.A X.stack s H :=
 ⟨I.ok.frames,I.ok.mod,I.bs,aag I.ok.Ci I.sz,I.stack,I.km,I.bh,I.bare⟩
theorem Inv.after(I:Inv X pins σ H s)(h:CE X.stack X.prog X.w H s Q u s'):EP X pins σ Q u s':=by
 obtain ⟨v,H',os,bare,un,bh,r,q⟩:=h
 obtain ⟨hh,g,d,t,os'⟩:=s'
 obtain rfl:os'=s.os:=os
 exact⟨v,H',I.call (h':=hh) (g':=g) (d':=d) (t':=t) (ch:=[]) un bh bare (fun b z=>absurd z (by simp)),r,q⟩
end
def Es(sp:Sp)(CC:List V)(E:XK)(t:TA):TE:=fun σ H Q=>t σ H fun vs H1=>sp (vs++CC) H1 Q E
def Ig(C:Addr)(sp:Sp)(CC:List V)(E:XK)(t:TA):TE:=fun σ H Q=>t σ H fun vs H1=>∀ x dx,H1 x=none->H1 dx=none->dx≠x ->
 sp (.ref x::(vs++CC)) (upd (upd H1 dx (.own x)) x (.ins C dx [])) (fun v H2=>v=.cJ/\Q (.ref x) H2) E
def Binds(K:Frag)(fd:FuncData)(ps:List Str)(ds:List Value):Prop :=
 ∀ (s:Shared) (us:List Value),K.In s.heap->(us++ds).length=ps.length->BindsTo s fd ⟨us,[]⟩ (ps.zip (us++ds))
theorem Binds.all{K:Frag}{fd:FuncData}{ps:List Str}(h:∀ us:List Value,us.length=ps.length->bindArgs fd ⟨us,[]⟩=pure (ps.zip us)):Binds K fd ps []:=fun s us _ hl=>by
 rw [append_nil] at hl ⊢
 exact .of_eq (h us hl)
def Passes(CX:CB)(X:Cx)(E:XK):Prop:=∀ (pins:List (Addr×Obj)) (σ:St) (H:Hp) (s:Shared) (e:Value) (s':Shared),Inv X pins σ H s->CX X.stack H s E e s'->X.xe e s'
section
variable {X:Cx}{CX:CB}{k:Nat}{f C:Addr}{fd:FuncData}{ps:List Str}{sp:Sp}{CC:List V}{ds:List Value}{E:XK}{x m:Str}{p pos apos:Pos}{e o:Expr}{es:List Expr}{ta:TE}{t:TA}
theorem PR(F:lh X.prog X.w X.K X.mg X.base CX k f fd ps sp)(hr:bK k X.A)(hb:Binds X.K fd ps ds)(hd:Vals CC ds)(hx:Passes CX X E)(I:Inv X pins σ H s)(r:Vals vs us)(h:sp (vs++CC) H Q E):wpAny (model X.prog X.w) X.A (call (.ref f) us) (EP X pins σ Q) X.xe s:=by
 have r2:Vals (vs++CC) (us++ds):=r.append hd
 have hl:(us++ds).length=ps.length:=by rw [<- r2.length];exact F.len _ _ _ _ h
 refine wpAny_call (codeAny_mono (F.run X.A X.stack s H ⟨us,[]⟩ (us++ds) (vs++CC) Q E hr I.Mi (hb s us I.jq hl) r2 h) fun r s' hq=>?_)
 cases r with
 | error e=>exact hx pins σ H s e s' I hq
 | ok fl =>
  cases fl with
  | ret u=>exact I.after hq
  | next=>exact False.elim hq
  | brk=>exact False.elim hq
  | cont=>exact False.elim hq
theorem Mj(F:lh X.prog X.w X.K X.mg X.base CX k f fd ps sp)(hr:bK k X.A)(hg:Gl X x)(hm:X.mg x=some (.ref f))(hk:PySem.W.keepIn X.K (.ref f)=true)(hb:Binds X.K fd ps ds)(hd:Vals CC ds)(hx:Passes CX X E)(ha:PA X (e::es) t)(wg:(x == ("__debug__":Str))=false:=by decide)(he:starEach (e::es) X.env=(false,eval e X.env)::starEach es X.env:=by rfl)(oy:(backTo pos (starEach es X.env)).any (·.1)=false:=by rfl):
  PE X (.Call (.Name x p) (e::es) [] pos) (Es sp CC E t):=by
 intro pins s σ H Q I h
 refine wpAny_Call_Name_kw (iG I hg hm ?_ wg)
 refine PySem.W.callWith_K (h₀:=X.base) I.ok.mod.LY hk (cu (ha pos pins s σ H _ I h) fun us s1 ⟨vs,H1,I1,r,q⟩=>⟨I1.jq,?_⟩) he oy
 exact PR F hr hb hd hx I1 r q
structure Mk(K:Frag)(C f:Addr):Prop where
 makes:makesIn K C=true
 init:findIn K (.ref C) "__init__"=some (some (.ref f))
 fn:isFn K (.ref f)=true
 kp:PySem.W.keepIn K (.ref C)=true
theorem Ih(M:Mk X.K C f)(F:lh X.prog X.w X.K X.mg X.base CX k f fd ps sp)(hr:bK (k+1) X.A)(hb:Binds X.K fd ps ds)(hd:Vals CC ds)(hx:Passes CX X E)(I:Inv X pins σ H s)(r:Vals vs us)(h:∀ x dx,H x=none->H dx=none->dx≠x->sp (.ref x::(vs++CC)) (upd (upd H dx (.own x)) x (.ins C dx [])) (fun v H2=>v=.cJ/\Q (.ref x) H2) E):
  wpAny (model X.prog X.w) X.A (call (.ref C) us) (EP X pins σ Q) X.xe s:=by
 have hq:=h (s.heap.objs.size+1) s.heap.objs.size (I.bh.fresh (Nat.le_succ _)) (I.bh.fresh (aah _)) (aa1 (lt_succ_self _))
 have I2:=Inv.made (C:=C) I
 have r2:Vals (V.ref (s.heap.objs.size+1)::(vs++CC)) (Value.ref (s.heap.objs.size+1)::(us++ds)):=.cons rfl (r.append hd)
 have hl:(Value.ref (s.heap.objs.size+1)::us++ds).length=ps.length:=by
  have e:=r2.length
  rw [F.len _ _ _ _ hq] at e
  exact e.symm
 refine wpAny_call (Ie (f:=f) I.jq M.makes M.init (beq_iff_eq.mp M.fn) (codeAny_mono (F.run _ X.stack _ _ ⟨Value.ref (s.heap.objs.size+1)::us,[]⟩ (Value.ref (s.heap.objs.size+1)::(us++ds)) _ _ E (hr.make C us [])
  (I2.Mi.make C us []) (hb _ (Value.ref (s.heap.objs.size+1)::us) I2.jq hl) r2 hq) fun r s' Ak=>?_))
 cases r with
 | error e=>exact hx pins σ _ _ e s' I2 Ak
 | ok fl =>
  cases fl with
  | ret u =>
   obtain ⟨v,H',I3,rv,ev,q3⟩:=I2.after Ak
   subst ev
   exact⟨rv,⟨V.ref (s.heap.objs.size+1),H',I3,rfl,q3⟩⟩
  | next=>exact False.elim Ak
  | brk=>exact False.elim Ak
  | cont=>exact False.elim Ak
theorem Ii(M:Mk X.K C f)(F:lh X.prog X.w X.K X.mg X.base CX k f fd ps sp)(hr:bK (k+1) X.A)(hg:Gl X x)(hm:X.mg x=some (.ref C))(hb:Binds X.K fd ps ds)(hd:Vals CC ds)(hx:Passes CX X E)(wg:(x == ("__debug__":Str))=false:=by decide):PE X (.Call (.Name x p) [] [] pos) (Ig C sp CC E Aj):=by
 intro pins s σ H Q I h
 refine wpAny_Call_Name_kw (iG I hg hm ?_ wg)
 exact PySem.W.callWith_K0 I.jq M.kp (Ih (us:=[]) M F hr hb hd hx I .nil h)
end
def PK(X:Cx)(Ud:List Keyword)(t:TA):Prop :=
 ∀ (pos:Pos) (pins:List (Addr×Obj)) (s:Shared) (σ:St) (H:Hp) (Q:List V->Hp->Prop),Inv X pins σ H s->t σ H Q->wpAny (model X.prog X.w) X.A (evalAll ((backToKw pos (keywordEach Ud X.env)).map (·.2))) (AP X pins σ Q) X.xe s
section
variable {X:Cx}{CX:CB}{k:Nat}{f C:Addr}{fd:FuncData}{ps ks:List Str}{sp:Sp}{E:XK}{x m:Str}{p pos apos Ij:Pos}{e o:Expr}{es:List Expr}{Ud:List Keyword}{te ta:TE}{t tk:TA}{nm:Option Str}
theorem PU:PK X [] Aj:=fun _ _ _ _ H Q I h=>wpAny_evalAll_nil ⟨[],H,I,.nil,h⟩
theorem Ml(ha:PE X e te)(hr:PK X Ud t):PK X (⟨nm,e,Ij⟩::Ud) (xn te t):=by
 intro pos pins s σ H Q I h
 show wpAny _ _ (evalAll ((do let v <- eval e X.env;standAt pos;pure v)::(backToKw pos (keywordEach Ud X.env)).map (·.2))) _ _ s
 refine wpAny_evalAll_cons (aac (cu (ha pins s σ H _ I h) fun u s1 ⟨x,H1,I1,r1,q1⟩=>aac (wpAny_standAt (aap ?_))))
 exact cu (hr pos pins s1 σ H1 _ I1 q1) fun us s2 ⟨xs,H2,I2,r2,q2⟩=>⟨x::xs,H2,I2,.cons r1 r2,q2⟩
variable {g:List Value->List Value->List Value}{gV:List V->List V->List V}
end
structure ao(N P:List Str)(sc:Scope):Prop where
 kind:sc.kind=.function
 co:sc.isCoroutine=false
 gen:sc.isGenerator=false
 nd:N.Nodup
 pre:N.take P.length=P
 par:∀ x∈P,sc.names.lookup x=some .local\/sc.names.lookup x=some .cell
 PX:∀ y∈sc.names,y.2≠.free
theorem xo{kindOf:Str->Option NameKind}{x:Str}:∀ {binds:List (Str×Value)} {m:Str->Option Value},(∀ v,(x,v)∉binds)->bindL kindOf binds m x=m x
 | [],_,_=>rfl
 | (n,v)::r,m,h=>by
  unfold bindL
  rw [xo fun w hw=>h w (aaB _ hw)]
  split
  ·have:x≠n:=by rintro rfl;exact h v mem_cons_self
   simp [this]
  ·rfl
theorem xp{kindOf:Str->Option NameKind}{x:Str}:∀ {binds:List (Str×Value)} {m:Str->Option Value},(∀ v,(x,v)∉binds)->bindC kindOf binds m x=m x
 | [],_,_=>rfl
 | (n,v)::r,m,h=>by
  unfold bindC
  rw [xp fun w hw=>h w (aaB _ hw)]
  split
  ·rfl
  ·have:x≠n:=by rintro rfl;exact h v mem_cons_self
   simp [this]
theorem xq{kindOf:Str->Option NameKind}{x:Str}{v:Value}:∀ {P:List Str} {vs:List Value} {i:Nat} {m:Str->Option Value},P.Nodup->P[i]?=some x->vs[i]?=some v->kindOf x=some .local ->
  bindL kindOf (P.zip vs) m x=some v
 | [],_,_,_,_,h,_,_=>by simp at h
 | _::_,[],_,_,_,_,h,_=>by simp at h
 | p::P,w::vs,0,m,nd,h1,h2,hk=>by
  simp at h1 h2;subst h1;subst h2
  show bindL kindOf ((p,w)::P.zip vs) m p=_
  unfold bindL
  rw [xo fun v hv=>(nodup_cons.mp nd).1 (of_mem_zip hv).1,if_pos hk]
  simp
 | p::P,w::vs,i+1,m,nd,h1,h2,hk=>by
  show bindL kindOf ((p,w)::P.zip vs) m x=_
  unfold bindL
  exact xq (i:=i) (nodup_cons.mp nd).2 (by simpa using h1) (by simpa using h2) hk
theorem xr{kindOf:Str->Option NameKind}{x:Str}{v:Value}:∀ {P:List Str} {vs:List Value} {i:Nat} {m:Str->Option Value},P.Nodup->P[i]?=some x->vs[i]?=some v->kindOf x≠some .local ->
  bindC kindOf (P.zip vs) m x=some v
 | [],_,_,_,_,h,_,_=>by simp at h
 | _::_,[],_,_,_,_,h,_=>by simp at h
 | p::P,w::vs,0,m,nd,h1,h2,hk=>by
  simp at h1 h2;subst h1;subst h2
  show bindC kindOf ((p,w)::P.zip vs) m p=_
  unfold bindC
  rw [xp fun v hv=>(nodup_cons.mp nd).1 (of_mem_zip hv).1,if_neg hk]
  simp
 | p::P,w::vs,i+1,m,nd,h1,h2,hk=>by
  show bindC kindOf ((p,w)::P.zip vs) m x=_
  unfold bindC
  exact xr (i:=i) (nodup_cons.mp nd).2 (by simpa using h1) (by simpa using h2) hk
def start(N:List Str)(vs:List V):St:=vs.map some++List.replicate (N.length - vs.length) none
def gP(CX:CB)(P:Program)(w:World)(K:Frag)(mg:Str->Option Value)(base:Heap)(N:List Str)(qual:Str)(scope:Scope)(f:Addr)(cd:Value)(A:Around)(outer:List Env)(s:Shared)(H:Hp)(E:XK):Cx where
 prog:=P
 w:=w
 K:=K
 mg:=mg
 base:=base
 A:=A.deeper (envOfC qual scope s.heap.objs.size f cd)
 N:=N
 s₀:=s
 H₀:=H
 env:=envOfC qual scope s.heap.objs.size f cd
 outer:=outer
 stack:=envOfC qual scope s.heap.objs.size f cd::outer
 ex:=[]
 calm:=true
 fn:=fun _=>true
 pn:=[]
 xe:=fun e s'=>wpAny (model P w) (A.deeper (envOfC qual scope s.heap.objs.size f cd)) (leaving (envOfC qual scope s.heap.objs.size f cd) e) (fun _ Yh=>CX outer H s E e Yh) (fun e' Yh=>CX outer H s E e' Yh) s'
theorem Al{sc:Scope}{n:Nat}{x:Str}(h:sc.names.lookup x=some .cell):∃ c,(cellsFrom n sc.names []).lookup x=some c:=by
 have q:=PySem.W.cellsFrom_some sc.names n [] (.inl h)
 exact aao.mp q
theorem xt{CX:CB}{P:Program}{w:World}{K:Frag}{mg:Str->Option Value}{base:Heap}{N ps:List Str}{qual:Str}{scope:Scope}{f:Addr}{cd:Value}{A:Around}{outer:List Env}{s s1:Shared}{H:Hp}{E:XK}{us:List Value}{vs:List V}
  (S:ao N ps scope) (hd:A.handled=none) (e0:rE P w K mg base A outer s H) (hl:vs.length=ps.length) (r:Vals vs us)
  (x:InCallC s s.heap.objs.size (bindL (envOfC qual scope s.heap.objs.size f cd).kindOf (ps.zip us) fun _=>none) (cellsFrom (s.heap.objs.size+1) scope.names []) (bindC (envOfC qual scope s.heap.objs.size f cd).kindOf (ps.zip us) fun _=>none) s1) :
  Inv (gP CX P w K mg base N qual scope f cd A outer s H E) [] (start N vs) H s1:=by
 have oy:ps.length<=N.length:=by have:=congrArg List.length S.pre;rw [aaO] at this;lia
 obtain ⟨h1,tk,rfl,hk⟩:=x.done
 have Ue:∀ b:Addr,b∉(gP CX P w K mg base N qual scope f cd A outer s H E).ex:=fun b z=>absurd (show b∈([]:List Addr) from z) (by simp)
 refine⟨⟨e0.mod,S.kind,rfl,rfl,aah _,fun y z c h1 h2=>?_,fun y hy=>?_,fun y c _ h=>?_,fun _=>hd,Around.frames_deeper e0.frames,.inr ⟨rfl,rfl⟩,fun b z=>absurd z (Ue b),e0.bs,e0.Ci,fun b _ _=>Ue b,fun b z=>absurd z (Ue b),e0.iE,e0.Ft⟩,
  rfl,e0.bare,Un.kept hk,⟨_,x.toInCall.ns,fun i y v h1 h2 h3=>?_⟩,fun y c h=>⟨_,x.cell y c h⟩,e0.bh.fresh (aah _),fun y c h=>?_,fun p hp=>absurd (show p∈([]:List (Addr×Obj)) from hp) (by simp),e0.bh.kept hk,?_⟩
 ·exact name_of_addr x.apart (PySem.mem_of_lookup h1) (PySem.mem_of_lookup h2)
 ·have hy:scope.names.lookup y=some .cell\/scope.names.lookup y=some .free:=hy
  rcases hy with hy|hy
  ·exact Al hy
  ·exact absurd rfl (S.PX _ (PySem.mem_of_lookup hy))
 ·exact aai (x.above y c (PySem.mem_of_lookup h))
 ·have hi:i<vs.length:=by
   unfold start at h2
   by_cases hi:i<vs.length
   ·exact hi
   ·rw [aaK (by simpa using hi)] at h2
    rw [List.getElem?_replicate] at h2
    split at h2 <;> cases h2
  have ha:vs[i]?=some v:=by
   unfold start at h2
   rw [aaJ (by simpa using hi),aaQ] at h2
   cases e:vs[i]? with
   | none=>rw [e] at h2;cases h2
   | some a=>rw [e] at h2;cases h2;rfl
  obtain ⟨u,hu,rv⟩:=r.get ha
  have hp:ps[i]?=some y:=by
   rw [<- S.pre,List.getElem?_take_of_lt aaa];exact h1
  have ndP:ps.Nodup:=by rw [<- S.pre];exact S.nd.sublist (List.take_sublist _ _)
  refine⟨u,rv,?_⟩
  rcases S.par y (aay hp) with k|k
  ·exact .inl ⟨k,xq ndP hp hu k⟩
  ·obtain ⟨c,e⟩:=Al (n:=s.heap.objs.size+1) k
   refine .inr ⟨.inl k,c,e,?_⟩
   have q:=x.cell y c e
   rw [xr ndP hp hu (by show scope.names.lookup y≠_;rw [k];decide)] at q
   exact q
 ·exact e0.bh.fresh (aai (x.above y c (PySem.mem_of_lookup h)))
 ·unfold start
  show _=N.length
  rw [aaA,aaz,length_replicate]
  lia
theorem Am{CX:CB}{P:Program}{w:World}{K:Frag}{mg:Str->Option Value}{base:Heap}{k:Nat}{f:Addr}{name qual:Str}{params:Arguments}{body:List Stmt}{scope:Scope}{dV kV doc pm bf ct oc:Value}{an od:Option Addr}
  {An:Array (Option Value)} {N ps:List Str} {sp:Sp} (lk:K.lookup f=some ⟨oc,od,.func (PySem.W.fnOf name qual params body scope dV kV doc pm an bf ct),An⟩) (lS:PySem.W.codeIn K bf qual=true) (S:ao N ps scope)
  (len:∀ vs H Q E,sp vs H Q E->vs.length=ps.length)
  (di:∀ (A:Around) (outer:List Env) (s:Shared) (H:Hp) (vs:List V) (Q:VK) (E:XK),bK k (A.deeper (envOfC qual scope s.heap.objs.size f bf))->sp vs H Q E ->
   ∃ t,oB (gP CX P w K mg base N qual scope f bf A outer s H E) body t/\t { nx:=fun _ H'=>Q .cJ H',rt:=Q } (start N vs) H) :
  lh P w K mg base CX (k+1) f (PySem.W.fnOf name qual params body scope dV kV doc pm an bf ct) ps sp:=by
 refine⟨len,fun A outer s H args us vs Q E hr e0 hb r lX=>?_⟩
 have hl:=len _ _ _ _ lX
 have KX:K.In s.heap:=e0.mod.LY.keeps fun b o e=>(e0.bs b o e).1
 have lim:s.heap.NoLimit:=e0.mod.nolimit.keeps fun b o e=>(e0.bs b o e).1
 have Ug:∀ y∈ps.zip us,scope.names.lookup y.1=some .local\/(scope.names.lookup y.1=some .cell/\((cellsFrom (s.heap.objs.size+1) scope.names []).lookup y.1).isSome=true):=fun ⟨n,v⟩ hy=>by
  rcases S.par n (of_mem_zip hy).1 with q|q
  ·exact .inl q
  ·exact .inr ⟨q,PySem.W.cellsFrom_some _ _ _ (.inl q)⟩
 refine codeAny_call_function hr.depth (KX _ _ lk) rfl S.co S.gen rfl (PySem.W.codeRec_of KX lS) (hb _ _ _ _ ?_)
 refine wpAny_newFunctionEnv_cells S.kind Ug fun env he s1 x=>?_
 subst he
 refine⟨lim.keeps x.toInCall.keep,codeAny_func ?_⟩
 obtain ⟨t,ht,hq⟩:=di A outer s H vs Q E (hr.deeper _) lX
 have I:Inv (gP CX P w K mg base N qual scope f bf A outer s H E) [] (start N vs) H s1:=xt S hr.hd e0 hl r x
 refine aaq (ht [] s1 (start N vs) H _ I hq) (fun fl s' hs=>?_) fun e s' hs=>hs
 have fin:∀ {σ':St} {H':Hp} {v:V} {u:Value},Inv (gP CX P w K mg base N qual scope f bf A outer s H E) [] σ' H' s'->RelV v u->Q v H'->CE outer P w H s Q u s' :=
  fun {σ' H' v u} J rv q=>⟨v,H',J.os,J.bare,J.base,J.bh,rv,q⟩
 cases fl with
 | ret u =>
  obtain ⟨v,σ',H',J,rv,q⟩:=hs
  exact fin J rv q
 | next =>
  obtain ⟨σ',H',J,q⟩:=hs
  exact fin (v:=V.cJ) (u:=Value.none) J rfl q
 | brk =>
  obtain ⟨_,_,_,q⟩:=hs
  exact False.elim q
 | cont =>
  obtain ⟨_,_,_,q⟩:=hs
  exact False.elim q
section
variable {X:Cx}{x:Str}{p pos:Pos}{e:Expr}{es:List Expr}{t:TA}{id T:String}{r:List V->Hp->VK->Prop}
def Yi(r:List V->Hp->VK->Prop)(t:TA):TE:=fun σ H Q=>t σ H fun vs H1=>r vs H1 Q
theorem ax(hc:bM X (.builtin id) r)(hg:Gl X x)(hm:X.mg x=none)(hv:bootBuiltins x=some (.builtin id))(ha:PA X (e::es) t)(hn:x≠"__name__":=by decide)(wg:(x == ("__debug__":Str))=false:=by decide)(he:starEach (e::es) X.env=(false,eval e X.env)::starEach es X.env:=by rfl)(oy:(backTo pos (starEach es X.env)).any (·.1)=false:=by rfl):PE X (.Call (.Name x p) (e::es) [] pos) (Yi r t):=by
 intro pins s σ H Q I h
 refine wpAny_Call_Name_kw (jy I hg hm hv ?_ hn wg)
 exact PyProof.Rows.callWith_builtin1 (cu (ha pos pins s σ H _ I h) fun us s1 ⟨vs,H1,I1,r1,q1⟩=>hc pins s1 σ H1 vs us Q I1 r1 q1) he oy
theorem aB(hc:bM X (.type T) r)(hg:Gl X x)(hm:X.mg x=none)(hv:bootBuiltins x=some (.type T))(ha:PA X (e::es) t)(hn:x≠"__name__":=by decide)(wg:(x == ("__debug__":Str))=false:=by decide)(he:starEach (e::es) X.env=(false,eval e X.env)::starEach es X.env:=by rfl)(oy:(backTo pos (starEach es X.env)).any (·.1)=false:=by rfl):PE X (.Call (.Name x p) (e::es) [] pos) (Yi r t):=by
 intro pins s σ H Q I h
 refine wpAny_Call_Name_kw (jy I hg hm hv ?_ hn wg)
 exact callWith_type1 (cu (ha pos pins s σ H _ I h) fun us s1 ⟨vs,H1,I1,r1,q1⟩=>hc pins s1 σ H1 vs us Q I1 r1 q1) he oy
end
end L2
namespace HT
open PySem PyProof.Rows
section
variable {prog:Program}{w:World}{A:Around}{E:Value->Shared->Prop}{s:Shared}
theorem Mm(ht:IsTup s.heap t vs.toArray)(hb:IsTup s.heap b ws.toArray)(hv:vs≠[])(h1:ws=[]->Q (.ref t) s)(h2:ws≠[]->Q (.ref s.heap.objs.size) { s with heap:=s.heap.push { cls:=.type "tuple",data:=.seq (vs++ws).toArray } })(lI:vs.length+ws.length<=sizeLine):wpAny (model prog w) A (binaryOp .Add (.ref t) (.ref b)) Q E s:=by
 obtain ⟨⟨cls,dd,data,sl⟩,ho,hc,n,hd⟩:=id ht
 obtain ⟨⟨Yj,W8,data2,W9⟩,wj,LK,n2,CD⟩:=id hb
 simp only at hc hd LK CD
 subst hc hd LK CD
 have e:vs.toArray++ws.toArray=(vs++ws).toArray:=by simp
 by_cases hw:ws=[]
 ·exact concat_meets ⟨_,ho,rfl⟩ ⟨_,wj,rfl⟩ noFill_tuple_add seq_tuple_add PySem.F.slot_tuple_add PySem.F.entry_tuple_add (PySem.F.args_tuple_add_2 _ _)
   (tuple_addW1 t b vs.toArray ws.toArray n n2 dd W8 sl W9 (by simpa using hv) (by simp [hw])) ⟨ho,wj,h1 hw⟩
 ·refine concat_meets ⟨_,ho,rfl⟩ ⟨_,wj,rfl⟩ noFill_tuple_add seq_tuple_add PySem.F.slot_tuple_add PySem.F.entry_tuple_add (PySem.F.args_tuple_add_2 _ _)
   (tuple_addW2 t b vs.toArray ws.toArray n n2 dd W8 sl W9 (by simpa using hv) (by simpa using hw) (by rw [aaP,aaP];exact lI)) ⟨ho,wj,?_⟩
  rw [e]
  exact h2 hw
def dh(n d:Nat):Option Int->Nat
 | none=>d
 | some v=>if v<0 then (v+(n:Int)).toNat else min v.toNat n
theorem tm(n d:Nat):dh n d none=d:=rfl
theorem yf(n d k:Nat):dh n d (some (k:Int))=min k n:=by
 show (if (k:Int)<0 then ((k:Int)+(n:Int)).toNat else min (k:Int).toNat n)=min k n
 rw [if_neg aaa,aa7]
theorem PY(n d:Nat)(hd:d<=n)(o:Option Int):dh n d o<=n:=by
 cases o with
 | none=>exact hd
 | some v =>
  show (if v<0 then (v+(n:Int)).toNat else min v.toNat n)<=n
  by_cases hv:v<0
  ·rw [if_pos hv];lia
  ·rw [if_neg hv];exact Nat.min_le_right _ _
theorem Et(v:Int)(n d:Nat):(if v<0 then max (v+(n:Int)) 0 else min v (n:Int))=((dh n d (some v):Nat):Int):=by
 show (if v<0 then max (v+(n:Int)) 0 else min v (n:Int))=(((if v<0 then (v+(n:Int)).toNat else min v.toNat n):Nat):Int)
 by_cases hv:v<0
 ·simp only [if_pos hv];lia
 ·simp only [if_neg hv];lia
theorem CF(lo hi:Option Int)(n:Nat):Builtin.Slice.sliceAdjust lo hi 1 (n:Int)=(((dh n 0 lo:Nat):Int),((dh n n hi:Nat):Int)):=by
 have h1:¬ ((1:Int)<0):=by lia
 unfold Builtin.Slice.sliceAdjust
 simp only [h1,if_false]
 refine Prod.ext ?_ ?_
 ·cases lo with
  | none=>rfl
  | some v=>exact Et v n 0
 ·cases hi with
  | none=>rfl
  | some v=>exact Et v n n
theorem CG(i j:Nat):Builtin.Slice.slicePlaces (i:Int) (j:Int) 1=j - i:=by
 unfold Builtin.Slice.slicePlaces
 have h1:(1:Int) > 0:=by lia
 simp only [h1,if_true,Int.ediv_one]
 split <;> lia
theorem tq(p:IsPart v o)(h:Q o s):wpAny (model prog w) A (Builtin.Slice.slicePartIndex v) Q E s:=by
 cases p with
 | none=>exact slicePart_none h
 | int i t=>exact slicePart_int h
theorem il{sl:Addr}{vl vu:Value}{lo hi:Option Int}{n:Nat}{Q:Int×Int×Nat->Shared->Prop}(hs:s.heap.IsSliceOf sl vl vu .none)(pl:IsPart vl lo)(pu:IsPart vu hi)
  (h:Q (((dh n 0 lo:Nat):Int),1,dh n n hi - dh n 0 lo) s):wpAny (model prog w) A (Builtin.Slice.sliceApplied (.ref sl) (pure (n:Int))) Q E s:=by
 obtain ⟨os,PZ,Tc,Uh⟩:=id hs
 unfold Builtin.Slice.sliceApplied Builtin.Slice.sliceFields
 refine aac (aac (wpAny_field PZ Uh (x:=vl) rfl (aac (wpAny_field PZ Uh (x:=vu) rfl (aac (wpAny_field PZ Uh (x:=.none) rfl (aap ?_)))))))
 refine aac (slicePart_none ?_)
 show wpAny _ _ (if ((1:Int) == 0)=true then _ else _) _ _ s
 rw [if_neg aa8]
 refine aac (tq pl (aac (tq pu (aac (aap ?_)))))
 show wpAny _ _ (match Builtin.Slice.sliceAdjust lo hi 1 (n:Int) with|(lo,hi)=>pure (lo,(1:Int),Builtin.Slice.slicePlaces lo hi 1)) _ _ s
 rw [CF lo hi n]
 show wpAny _ _ (pure (((dh n 0 lo:Nat):Int),(1:Int),Builtin.Slice.slicePlaces ((dh n 0 lo:Nat):Int) ((dh n n hi:Nat):Int) 1)) _ _ s
 rw [CG]
 exact aap h
theorem Ik(xs:Array Value)(i k:Nat):((List.range k).filterMap fun (m:Nat)=>xs[((i:Int)+(m:Int)*1).toNat]?).toArray=((xs.toList.drop i).take k).toArray:=by
 have e:(fun (m:Nat)=>xs[((i:Int)+(m:Int)*1).toNat]?)=fun m=>xs[i+m]?:=by
  funext m
  have:((i:Int)+(m:Int)*1).toNat=i+m:=by lia
  rw [this]
 rw [e]
 have:=pick_run xs i k
 rw [List.filterMap_map] at this
 have e2:((fun x=>xs[x]?) ∘ fun x=>i+x)=fun m=>xs[i+m]?:=rfl
 rw [e2] at this
 rw [this]
theorem nh{t sl:Addr}{items:Array Value}{vl vu:Value}{lo hi:Option Int}{Q:Value->Shared->Prop}(ht:IsTup s.heap t items)(hs:s.heap.IsSliceOf sl vl vu .none)(pl:IsPart vl lo)(pu:IsPart vu hi)
  (hw:¬ (dh items.size 0 lo=0/\dh items.size items.size hi=items.size))
  (h:Q (.ref s.heap.objs.size) { s with heap:=s.heap.push { cls:=.type "tuple",data:=.seq ((items.toList.drop (dh items.size 0 lo)).take (dh items.size items.size hi - dh items.size 0 lo)).toArray } })
  (lI:items.size<=sizeLine):wpAny (model prog w) A (getItem (.ref t) (.ref sl)) Q E s:=by
 have Eu:sizeOk (.seq ((items.toList.drop (dh items.size 0 lo)).take (dh items.size items.size hi - dh items.size 0 lo)).toArray):=by
  show ((items.toList.drop (dh items.size 0 lo)).take (dh items.size items.size hi - dh items.size 0 lo)).toArray.size<=sizeLine
  rw [aaP,aaO,length_drop,Array.length_toList]
  exact aag (Nat.min_le_right _ _) (aag (Nat.sub_le _ _) lI)
 have hj:dh items.size items.size hi<=items.size:=PY _ _ (aah _) hi
 obtain ⟨os,PZ,Tc,Uh⟩:=id hs
 have Yk:s.TypeIs (.ref sl) "slice":=⟨os,PZ,Tc⟩
 unfold getItem
 try with_reducible refine wpAny_holding ?_
 first|refine aac (aap ?_)|skip
 refine aac (wpAny_sequenceKey ht.typeIs aa8 ?_)
 refine aac (wpAny_callSpecial?_slot (name:=Str.ofString "__getitem__") ht.typeIs PyProof.Rows.slot_tuple_getitem
  (wpAny_call_entry PyProof.Rows.slot_tuple_getitem ht.typeIs entry_tuple_getitem ?_ (args_tuple_getitem _ _)))
 show wpAny _ _ (Builtin.Tuple.tupleItemsOf (.ref t) >>= _) _ _ s
 refine aac (tupleItemsOf_ ht ?_)
 refine aac (wpAny_typeOf Yk ?_)
 rw [if_pos aa8]
 refine aac (il hs pl pu ?_)
 have iI:¬ ((((dh items.size 0 lo:Nat):Int) == 0 && (1:Int) == 1 && (dh items.size items.size hi - dh items.size 0 lo) == items.size)=true):=by
  intro q
  rw [Bool.and_eq_true,Bool.and_eq_true] at q
  have q1:((dh items.size 0 lo:Nat):Int)=0:=eq_of_beq q.1.1
  have q2:dh items.size items.size hi - dh items.size 0 lo=items.size:=eq_of_beq q.2
  exact hw ⟨aaa,aaa⟩
 show wpAny _ _ (if (((dh items.size 0 lo:Nat):Int) == 0 && (1:Int) == 1 && (dh items.size items.size hi - dh items.size 0 lo) == items.size)=true then _ else _) _ _ s
 rw [if_neg iI,Ik]
 first
  | exact aac (m:=Builtin.Tuple.tupleExact _) (wpAny_newObj_type (aap ⟨_,rfl,aap h⟩) Eu)
  | exact aac (m:=Builtin.Tuple.tupleExact _) (wpAny_newObj_type (aac (aap (aap ⟨_,rfl,aap h⟩))) Eu)
  | exact aac (aac (m:=Builtin.Tuple.tupleExact _) (wpAny_newObj_type (aap (aap ⟨_,rfl,aap h⟩)) Eu))
  | exact aac (aac (m:=Builtin.Tuple.tupleExact _) (wpAny_newObj_type (aap ⟨_,rfl,aap h⟩) Eu))
end
end HT
namespace L2
open PySem PySem.Spec PyProof.Rows
abbrev TO:=St->Hp->(Option Int->Hp->Prop)->Prop
def PO(X:Cx)(e:Option Expr)(t:TO):Prop :=
 ∀ (pins:List (Addr×Obj)) (s:Shared) (σ:St) (H:Hp) (Q:Option Int->Hp->Prop),Inv X pins σ H s->t σ H Q ->
  wpAny (model X.prog X.w) X.A (evalPart e X.env) (fun u s'=>∃ o H',Inv X pins σ H' s'/\IsPart u o/\Q o H') X.xe s
def Ew:TO:=fun _ H Q=>Q none H
def Ol(t:TE):TO:=fun σ H Q=>t σ H fun x H1=>∃ i,x=.int i/\Q (some i) H1
theorem intsAre_of:∀ {us:List Value},Vals (ns.map V.int) us->IntsAre us ns:=by
 induction ns with
 | nil=>intro us r;rw [map_nil] at r;cases r;exact .nil
 | cons n ns ih =>
  intro us r
  rw [map_cons] at r
  cases r with
  | cons r1 r2 =>
   obtain ⟨t,e⟩:=r1
   subst e
   exact .cons n t (ih r2)
section
variable {X:Cx}{e:Expr}{te:TE}{lo hi:Option Expr}{tl th:TO}{pos p2:Pos}
theorem dy:PO X none Ew:=by
 intro pins s σ H Q I h
 rw [evalPart_none]
 exact aap ⟨none,H,I,.none,h⟩
theorem dz(h:PE X e te):PO X (some e) (Ol te):=by
 intro pins s σ H Q I hw
 rw [evalPart_some]
 refine cu (h pins s σ H _ I hw) fun u s1 ⟨x,H1,I1,r1,q1⟩=>?_
 obtain ⟨i,rfl,q⟩:=q1
 obtain ⟨t,rfl⟩:=r1
 exact⟨some i,H1,I1,.int i t,q⟩
def P0(X:Cx)(r:V->Option Int->Option Int->Hp->VK->Prop):Prop :=
 ∀ (pins:List (Addr×Obj)) (s:Shared) (σ:St) (H:Hp) (x:V) (v vl vu:Value) (lo hi:Option Int) (sl:Addr) (Q:VK),Inv X pins σ H s->RelV x v->s.heap.IsSliceOf sl vl vu .none->IsPart vl lo->IsPart vu hi->r x lo hi H Q ->
  ∃ T id,typeLookup (.type T) "__getitem__"=pure (some (.builtin id))/\s.TypeIs v T/\wpAny (model X.prog X.w) X.A (getItem v (.ref sl)) (EP X pins σ Q) X.xe s
def tSl(r:V->Option Int->Option Int->Hp->VK->Prop)(te:TE)(tl th:TO):TE:=fun σ H Q=>te σ H fun x H1=>tl σ H1 fun l H2=>th σ H2 fun u H3=>r x l u H3 Q
theorem cF(hr:P0 X r)(he:PE X e te)(hl:PO X lo tl)(hu:PO X hi th):PE X (.Subscript e (.Slice lo hi none p2) pos) (tSl r te tl th):=by
 intro pins s σ H Q I h
 refine Subscript_ (cu (he pins s σ H _ I h) fun v s1 ⟨x,H1,I1,r1,q1⟩=>?_)
 refine wpAny_Slice (cu (hl pins s1 σ H1 _ I1 q1) fun vl s2 ⟨l,H2,I2,pl,q2⟩=>cu (hu pins s2 σ H2 _ I2 q2) fun vu s3 ⟨u,H3,I3,pu,q3⟩=>?_)
 rw [evalPart_none]
 refine aap ?_
 have I4:Inv X pins σ H3 { s3 with heap:=s3.heap.push { cls:=.type "slice",data:=.fields #[vl,vu,.none] } }:=I3.kept (t':=s3.toks) fun b ob q=>aab _ q
 obtain ⟨T,id,hT,ht,hg⟩:=hr pins { s3 with heap:=s3.heap.push { cls:=.type "slice",data:=.fields #[vl,vu,.none] } } σ H3 x v vl vu l u s3.heap.objs.size Q I4 r1 (Heap.IsSliceOf.new ..) pl pu q3
 show wpAny (model X.prog X.w) X.A (subscriptTail e (.Slice lo hi none p2) v (.ref s3.heap.objs.size)) (EP X pins σ Q) X.xe { s3 with heap:=s3.heap.push { cls:=.type "slice",data:=.fields #[vl,vu,.none] } }
 exact tail_any (ops:=[.ref s3.heap.objs.size,v]) ht hT hg (by with_unfolding_all rfl)
def lB(xs:List V)(lo hi:Option Int):List V:=(xs.drop (HT.dh xs.length 0 lo)).take (HT.dh xs.length xs.length hi - HT.dh xs.length 0 lo)
theorem qj(xs:List V)(lo hi:Option Int):(lB xs lo hi).length<=xs.length:=by
 unfold lB
 rw [aaO,length_drop]
 lia
def Ui(K:Frag):V->Option Int->Option Int->Hp->VK->Prop:=fun x lo hi H Q=>∃ a xs,x=.ref a/\aC K H a xs /\
 ¬ (HT.dh xs.length 0 lo=0/\HT.dh xs.length xs.length hi=xs.length)/\∀ p,H p=none->Q (.ref p) (upd H p (.tup (lB xs lo hi)))
theorem P1:P0 X (Ui X.K):=by
 intro pins s σ H x v vl vu lo hi sl Q I rx hs pl pu h
 obtain ⟨a,xs,rfl,hx,hw,q⟩:=h
 cases rx
 obtain ⟨its,r,ht,hz⟩:=I.tuple hx
 have hlen:its.toArray.size=xs.length:=by rw [aaP];exact r.length.symm
 refine⟨"tuple",_,PyProof.Rows.slot_tuple_getitem.lookup,ht.typeIs,?_⟩
 refine HT.nh ht hs pl pu (by rw [hlen];exact hw) ?_ (by rw [hlen];exact hz)
 rw [hlen]
 refine⟨.ref s.heap.objs.size,_,I.laid (t':=s.toks) (o:=.tup (lB xs lo hi)) (fun b ob q=>aab _ q) (aah _) ?_,rfl,q _ (I.bh.fresh (aah _))⟩
 exact⟨aag (qj xs lo hi) hz,_,(r.drop (HT.dh xs.length 0 lo)).take (HT.dh xs.length xs.length hi - HT.dh xs.length 0 lo),IsTup.new _ _⟩
def Il(K:Frag):R2:=fun x y H Q=>∃ a b xs ys,x=.ref a/\y=.ref b/\aC K H a xs/\aC K H b ys/\xs≠[]/\xs.length+ys.length<=sizeLine /\
 (ys=[]->Q (.ref a) H)/\(ys≠[]->∀ p,H p=none->Q (.ref p) (upd H p (.tup (xs++ys))))
theorem Vals.yg(r:Vals xs us):us=[]↔xs=[]:=by
 cases r with
 | nil=>simp
 | cons _ _=>simp
theorem Ex:gq X (binaryOp .Add) (Il X.K):=by
 intro pins s σ H x y v u Q I rx ry h
 obtain ⟨a,b,xs,ys,rfl,rfl,ha,hb,hx,hz,q1,q2⟩:=h
 cases rx
 cases ry
 obtain ⟨its,r1,p1,_⟩:=I.tuple ha
 obtain ⟨Im,r2,p2,_⟩:=I.tuple hb
 refine HT.Mm p1 p2 (fun z=>hx (r1.yg.mp z)) (fun z=>⟨.ref a,H,I,rfl,q1 (r2.yg.mp z)⟩) (fun z=>?_) (by rw [<- r1.length,<- r2.length];exact hz)
 refine⟨.ref s.heap.objs.size,_,I.laid (t':=s.toks) (o:=.tup (xs++ys)) (fun b ob q=>aab _ q) (aah _) ?_,rfl,q2 (fun w=>z (r2.yg.mpr w)) _ (I.bh.fresh (aah _))⟩
 exact⟨by rw [aaA];exact hz,_,r1.append r2,IsTup.new _ _⟩
end
def Io(n:Nat)(i:Int):Option Nat:=if 0<=i then (if i<n then some i.toNat else none) else if -(n:Int)<=i then some (i+n).toNat else none
def FE{α:Type}(xs:List α)(i:Int):Option α:=(Io xs.length i).bind fun j=>xs[j]?
theorem Ey{n:Nat}{i:Int}{j:Nat}(h:Io n i=some j):seqIndex? i n=some j/\j<n/\-(n:Int)<=i/\i<n:=by
 unfold Io at h
 by_cases h0:0<=i
 ·rw [if_pos h0] at h
  by_cases h1:i<n
  ·rw [if_pos h1] at h
   have e:i.toNat=j:=aaj h
   exact⟨by rw [seqIndex_of h0 h1,e],aaa,aaa,h1⟩
  ·rw [if_neg h1] at h;cases h
 ·rw [if_neg h0] at h
  by_cases h1:-(n:Int)<=i
  ·rw [if_pos h1] at h
   have e:(i+n).toNat=j:=aaj h
   exact⟨by rw [seqIndex_neg aaa h1,e],aaa,h1,aaa⟩
  ·rw [if_neg h1] at h;cases h
theorem yh{α:Type}{xs:List α}{i:Int}{v:α}(h:FE xs i=some v):∃ j,seqIndex? i xs.length=some j/\xs[j]?=some v/\j<xs.length/\-(xs.length:Int)<=i/\i<xs.length:=by
 unfold FE at h
 cases e:Io xs.length i with
 | none=>rw [e] at h;cases h
 | some j =>
  rw [e] at h
  obtain ⟨h1,h2,h3,h4⟩:=Ey e
  exact⟨j,h1,h,h2,h3,h4⟩
theorem aX{α:Type}{xs:List α}{j:Nat}{v:α}(h:xs[j]?=some v):FE xs (j:Int)=some v:=by
 have hj:j<xs.length:=(aad.mp h).1
 have e:Io xs.length (j:Int)=some j:=by
  unfold Io
  rw [if_pos aaa,if_pos aaa];simp
 unfold FE;rw [e];exact h
def Ez(b:Expr):Prop:=∀ o i,subscripted b false o i=operate [o,i] (getItem o i)
def Ip(X:Cx)(r:R2):Prop :=
 ∀ (value slice:Expr) (pins:List (Addr×Obj)) (s:Shared) (σ:St) (H:Hp) (x y:V) (v u:Value) (Q:VK),Inv X pins σ H s->RelV x v->RelV y u->r x y H Q ->
  subscripted slice false v u=operate [v,u] (getItem v u)->wpAny (model X.prog X.w) X.A (subscriptTail value slice v u) (EP X pins σ Q) X.xe s
def P2(X:Cx)(id:String)(r:V->List V->Hp->VK->Prop):Prop :=
 ∀ (pins:List (Addr×Obj)) (s:Shared) (σ:St) (H:Hp) (x:V) (xs:List V) (v:Value) (us:List Value) (Q:VK),Inv X pins σ H s->RelV x v->Vals xs us->r x xs H Q ->
  wpAny (model X.prog X.w) X.A (call (.builtin id) (v::us)) (EP X pins σ Q) X.xe s
section
variable {X:Cx}{a b:Expr}{ta tb:TE}{pos:Pos}
theorem Ip.or(h:Ip X r)(h':Ip X r'):Ip X (fun x y H Q=>r x y H Q\/r' x y H Q):=by
 intro value slice pins s σ H x y v u Q I rx ry q hs
 rcases q with q|q
 ·exact h value slice pins s σ H x y v u Q I rx ry q hs
 ·exact h' value slice pins s σ H x y v u Q I rx ry q hs
theorem xu(hr:Ip X r)(ha:PE X a ta)(hb:PE X b tb)(hs:Ez b):PE X (.Subscript a b pos) (HW r ta tb):=by
 intro pins s σ H Q I h
 exact Subscript_ (Pz ha hb I h fun v u s2 x y H2 I2 rx ry q=>hr a b pins s2 σ H2 x y v u Q I2 rx ry q (hs _ _))
def Uj(K:Frag):R2:=fun x y H Q=>∃ p xs i v,x=.ref p/\y=.int i/\aP K H p xs/\FE xs i=some v/\Q v H
def Uk(K:Frag):R2:=fun x y H Q=>∃ p xs i v,x=.ref p/\y=.int i/\aC K H p xs/\FE xs i=some v/\Q v H
def P4:R2:=fun x y H Q=>∃ z i c,x=.str z/\y=.int i/\z.length<=sizeLine/\FE z.cps.toList i=some c/\Q (.str ⟨#[c]⟩) H
theorem Mn:Ip X (Uj X.K):=by
 intro value slice pins s σ H x y v u Q I rx ry h hs
 obtain ⟨p,xs,i,z,rfl,rfl,hq,he,q⟩:=h
 cases rx
 obtain ⟨t,rfl⟩:=ry
 obtain ⟨its,r,pl,hz⟩:=I.list hq
 obtain ⟨j,h1,h2,h3,h4,h5⟩:=yh he
 obtain ⟨w,ew,Ul⟩:=r.get h2
 have hl:=r.length
 have hn:=oG
 have fin:EP X pins σ Q w s:=⟨z,H,I,Ul,q⟩
 by_cases h0:0<=i
 ·have hj:i.toNat=j:=by
   rw [seqIndex_of h0 h5] at h1
   exact aaj h1
  exact item_listR pl.isList h0 aaa (by rw [hj];simpa using ew) fin hs
 ·have hj:(i+(its.toArray.size:Int)).toNat=j:=by
   rw [seqIndex_neg aaa h4] at h1
   rw [aaP,<- hl]
   exact aaj h1
  exact subscriptTail_builtinR (x:=w) pl.isList.typeIs slot_list_getitem.lookup
   (wpAny_getItem_list_neg (Q:=fun r s'=>r=w/\EP X pins σ Q r s') pl.isList aaa (by rw [aaP] <;> lia) aaa (by rw [hj];simpa using ew) ⟨rfl,fin⟩) hs
theorem P6:Ip X (Uk X.K):=by
 intro value slice pins s σ H x y v u Q I rx ry h hs
 obtain ⟨p,xs,i,z,rfl,rfl,hq,he,q⟩:=h
 cases rx
 obtain ⟨t,rfl⟩:=ry
 obtain ⟨its,r,pl,hz⟩:=I.tuple hq
 obtain ⟨j,h1,h2,h3,h4,h5⟩:=yh he
 obtain ⟨w,ew,Ul⟩:=r.get h2
 have hl:=r.length
 have hn:=oG
 have fin:EP X pins σ Q w s:=⟨z,H,I,Ul,q⟩
 exact subscriptTail_builtinR (x:=w) pl.typeIs slot_tuple_getitem.lookup
  (getItem_tuple (j:=j) (Q:=fun r s'=>r=w/\EP X pins σ Q r s') pl aaa aaa (by rw [aaP,<- hl];exact h1) (by simpa using ew) ⟨rfl,fin⟩) hs
theorem Iq:Ip X P4:=by
 intro value slice pins s σ H x y v u Q I rx ry h hs
 obtain ⟨z,i,c,rfl,rfl,hz,he,q⟩:=h
 obtain ⟨t,rfl⟩:=rx
 obtain ⟨t',rfl⟩:=ry
 obtain ⟨j,h1,h2,h3,h4,h5⟩:=yh he
 have hl:z.cps.toList.length=z.length:=by simp [Str.length]
 rw [hl] at h1 h4 h5
 have hn:=oG
 exact tail_any (typeIs_str s z t) slot_str_getitem.lookup (getItem_str (c:=c) (by
  have e1:decide (i < -(2 ^ 63:Int))=false:=aam aaa
  have e2:decide (i ≥ 2 ^ 63)=false:=aam aaa
  rw [e1,e2,Bool.or_false]) (by rw [h1];simpa using h2) ⟨.str ⟨#[c]⟩,H,I.tok _,⟨_,rfl⟩,q⟩) hs
def Um(K:Frag):R2:=fun x y H Q=>Uj K x y H Q\/Uk K x y H Q\/P4 x y H Q
theorem P7:Ip X (Um X.K):=Mn.or (P6.or Iq)
theorem CH(its:List Value)(n j:Nat)(u:Value):Obj.mapSeq (·.setIfInBounds j u) { cls:=.type "list",data:=.seq its.toArray n }={ cls:=.type "list",data:=.seq (its.set j u).toArray n }:=by
 simp [Obj.mapSeq]
theorem Inv.lst(I:Inv X pins σ H s)(h:H p=some (.lst xs)):
  ∃ (its:List Value) (n:Nat),Vals xs its/\s.heap.get? p=some { cls:=.type "list",data:=.seq its.toArray n }/\xs.length<=sizeLine:=by
 obtain ⟨z,its,n,r,e⟩:=I.bh p _ h
 exact⟨its,n,r,e,z⟩
theorem Inv.P8{pins:List (Addr×Obj)}{σ:St}{H:Hp}{s:Shared}{p:Addr}{xs ys:List V}{its its':List Value}{n n':Nat}{f:Obj->Obj}(I:Inv X pins σ H s)(h:H p=some (.lst xs))
  (ho:s.heap.get? p=some { cls:=.type "list",data:=.seq its.toArray n }) (hf:f { cls:=.type "list",data:=.seq its.toArray n }={ cls:=.type "list",data:=.seq its'.toArray n' }) (r:Vals ys its') (hz:ys.length<=sizeLine) (t:Nat) :
  Inv X pins σ (upd H p (.lst ys)) { s with heap:=s.heap.update p f,toks:=t }:=by
 have e:(s.heap.update p f).get? p=some { cls:=.type "list",data:=.seq its'.toArray n' }:=by
  rw [Heap.get?_update_self f ho (by rw [hf] <;> rfl),hf]
 refine I.write (x:=p) (e:=p) (by rw [h];trivial) (.inl rfl) (fun b u hb q=>(Heap.get?_update_other _ _ (Ne.symm hb)).trans q) ⟨_,e⟩ ?_
 exact⟨hz,its',n',r,e⟩
def Om:V->V->V->Hp->(Hp->Prop)->Prop:=fun o i v H Q=>∃ p xs k j,o=.ref p/\i=.int k/\H p=some (.lst xs)/\Io xs.length k=some j/\Q (upd H p (.lst (xs.set j v)))
theorem set_list:T6 X Om:=by
 intro pins s σ H o i v ov iv u Q I ro ri rv h
 obtain ⟨p,xs,k,j,rfl,rfl,hp,hj,q⟩:=h
 cases ro
 obtain ⟨t,rfl⟩:=ri
 obtain ⟨its,n,r,ho,hz⟩:=I.lst hp
 obtain ⟨h1,h2,h3,h4⟩:=Ey hj
 have hl:=r.length
 have hn:=oG
 have I':Inv X pins σ (upd H p (.lst (xs.set j v))) { s with heap:=s.heap.update p (Obj.mapSeq (·.setIfInBounds j u)) } :=
  I.P8 hp ho (CH its n j u) (r.set rv j) (by rw [List.length_set];exact hz) s.toks
 by_cases h0:0<=k
 ·have hk:k.toNat=j:=by
   rw [seqIndex_of h0 h4] at h1
   exact aaj h1
  exact PySem.W.ki_setAt ho h0 aaa (by rw [aaP,<- hl];exact h4) (by rw [hk];exact⟨_,I',q⟩)
 ·have hk:(k+(its.toArray.size:Int)).toNat=j:=by
   rw [seqIndex_neg aaa h3] at h1
   rw [aaP,<- hl]
   exact aaj h1
  exact PySem.W.ki_setBack ho aaa (by rw [aaP,<- hl];exact h3) aaa (by rw [hk];exact⟨_,I',q⟩)
theorem yi(lo hi:Option Int)(n:Nat):(sliceBounds lo hi none n).1=((HT.dh n 0 lo:Nat):Int)/\(sliceBounds lo hi none n).2.1=((HT.dh n n hi:Nat):Int)/\(sliceBounds lo hi none n).2.2=1:=by
 refine⟨?_,?_,rfl⟩
 ·cases lo with
  | none=>simp [sliceBounds,HT.dh]
  | some i =>
   simp only [sliceBounds,HT.dh,Option.getD_none,show (1:Int) > 0 by decide,if_true]
   by_cases h:i<0
   ·simp only [h,if_true] <;> lia
   ·simp only [h,if_false] <;> lia
 ·cases hi with
  | none=>simp [sliceBounds,HT.dh]
  | some i =>
   simp only [sliceBounds,HT.dh,Option.getD_none,show (1:Int) > 0 by decide,if_true]
   by_cases h:i<0
   ·simp only [h,if_true] <;> lia
   ·simp only [h,if_false] <;> lia
theorem wm(its:List Value)(lo hi:Option Int):slicePick its.toArray lo hi none=((its.drop (HT.dh its.length 0 lo)).take (HT.dh its.length its.length hi - HT.dh its.length 0 lo)).toArray:=by
 obtain ⟨h1,h2,h3⟩:=yi lo hi its.toArray.size
 unfold slicePick
 rw [h1,h2,h3]
 simp only [sliceRange_one,pick_run,aaP] <;> rfl
def Ir(K:Frag):V->Option Int->Option Int->Hp->VK->Prop:=fun x lo hi H Q=>∃ a xs,x=.ref a/\aP K H a xs/\∀ p,H p=none->Q (.ref p) (upd H p (.lst (lB xs lo hi)))
theorem Mo:P0 X (Ir X.K):=by
 intro pins s σ H x v vl vu lo hi sl Q I rx hs pl pu h
 obtain ⟨a,xs,rfl,hx,q⟩:=h
 cases rx
 obtain ⟨its,r,ht,hz⟩:=I.list hx
 have hlen:=r.length
 refine⟨"list",_,slot_list_getitem.lookup,ht.isList.typeIs,?_⟩
 refine wpAny_getItem_list_slice ht.isList hs pl pu .none (by simp) ?_ (by rw [aaP] <;> lia)
 rw [wm,<- hlen]
 refine⟨.ref s.heap.objs.size,_,I.laid (t':=s.toks) (o:=.lst (lB xs lo hi)) (fun b ob q=>aab _ q) (aah _) ?_,rfl,q _ (I.bh.fresh (aah _))⟩
 exact⟨aag (qj xs lo hi) hz,_,0,(r.drop (HT.dh xs.length 0 lo)).take (HT.dh xs.length xs.length hi - HT.dh xs.length 0 lo),aaf _ rfl⟩
def ip:V->Bool
 | .cJ=>true
 | .bl _=>true
 | .int _=>true
 | .str _=>true
 | _=>false
def Mp:V->V->Bool
 | .cJ,.cJ=>true
 | .bl a,.bl b=>a == b
 | .bl a,.int b=>(if a then 1 else 0) == b
 | .int a,.bl b=>a == (if b then 1 else 0)
 | .int a,.int b=>a == b
 | .str a,.str b=>a == b
 | _,_=>false
theorem P9(ry:RelV y u)(rx:RelV x v)(fy:ip y=true)(fx:ip x=true):SeqAt.EqAt A s u v (Mp y x):=by
 cases y with
 | cJ =>
  cases ry
  cases x with
  | cJ=>cases rx;exact SeqAt.EqAt.same _
  | bl b=>cases rx;exact SeqAt.EqAt.none_bool b
  | int b=>obtain ⟨t,rfl⟩:=rx;exact SeqAt.EqAt.none_int b t
  | str b=>obtain ⟨t,rfl⟩:=rx;exact SeqAt.EqAt.none_str b t
  | _=>exact absurd (show false=true from fx) Bool.false_ne_true
 | bl a =>
  cases ry
  cases x with
  | cJ=>cases rx;exact SeqAt.EqAt.bool_none a
  | bl b=>cases rx;exact SeqAt.EqAt.bool_bool a b
  | int b=>obtain ⟨t,rfl⟩:=rx;exact SeqAt.EqAt.bool_int a b t
  | str b=>obtain ⟨t,rfl⟩:=rx;exact SeqAt.EqAt.bool_str a b t
  | _=>exact absurd (show false=true from fx) Bool.false_ne_true
 | int a =>
  obtain ⟨t',rfl⟩:=ry
  cases x with
  | cJ=>cases rx;exact SeqAt.EqAt.int_none a t'
  | bl b=>cases rx;exact SeqAt.EqAt.int_bool a t' b
  | int b=>obtain ⟨t,rfl⟩:=rx;exact SeqAt.EqAt.int_int a t' b t
  | str b=>obtain ⟨t,rfl⟩:=rx;exact SeqAt.EqAt.int_str a t' b t
  | _=>exact absurd (show false=true from fx) Bool.false_ne_true
 | str a =>
  obtain ⟨t',rfl⟩:=ry
  cases x with
  | cJ=>cases rx;exact SeqAt.EqAt.str_none a t'
  | bl b=>cases rx;exact SeqAt.EqAt.str_bool a t' b
  | int b=>obtain ⟨t,rfl⟩:=rx;exact SeqAt.EqAt.str_int a t' b t
  | str b=>obtain ⟨t,rfl⟩:=rx;exact SeqAt.EqAt.str_str a t' b t
  | _=>exact absurd (show false=true from fx) Bool.false_ne_true
 | _=>exact absurd (show false=true from fy) Bool.false_ne_true
def Mq(x:V)(u:Value):Bool:=match u with
 | .none=>Mp .cJ x
 | .bool b=>Mp (.bl b) x
 | .int i _=>Mp (.int i) x
 | .str z _=>Mp (.str z) x
 | _=>false
theorem Iu(r:RelV y u)(f:ip y=true):Mq x u=Mp y x:=by
 cases y with
 | cJ=>cases r;rfl
 | bl b=>cases r;rfl
 | int i=>obtain ⟨t,rfl⟩:=r;rfl
 | str z=>obtain ⟨t,rfl⟩:=r;rfl
 | _=>exact absurd (show false=true from f) Bool.false_ne_true
theorem yj:∀ {xs:List V} {us:List Value},Vals xs us->xs.all ip=true->us.any (Mq x)=xs.any fun y=>Mp y x
 | _,_,.nil,_=>rfl
 | y::xs,u::us,.cons r t,f=>by
  rw [all_cons,Bool.and_eq_true] at f
  rw [any_cons,any_cons,Iu r f.1,yj t f.2]
theorem tw(rx:RelV x v)(fx:ip x=true):∀ {xs:List V} {us:List Value},Vals xs us->xs.all ip=true->∀ u∈us,SeqAt.EqAt A s u v (Mq x u)
 | _,_,.nil,_=>fun u hu=>by cases hu
 | y::xs,u::us,.cons r t,f=>fun u' hu=>by
  rw [all_cons,Bool.and_eq_true] at f
  rcases aaC.mp hu with rfl|hu
  ·rw [Iu r f.1];exact P9 r rx f.1 fx
  ·exact tw rx fx t f.2 u' hu
def LL(x:V)(xs:List V):Bool:=xs.any fun y=>Mp y x
def Xa(K:Frag)(neg:Bool):R2:=fun x y H Q=>∃ p xs,y=.ref p/\(aP K H p xs\/aC K H p xs)/\ip x=true/\xs.all ip=true/\Q (.bl (if neg then !LL x xs else LL x xs)) H
theorem FF:gq X (compareOp .In) (Xa X.K false):=by
 intro pins s σ H x y v u Q I rx ry h
 obtain ⟨p,xs,rfl,hq,fx,fs,q⟩:=h
 cases ry
 rcases hq with hq|hq
 ·obtain ⟨its,r,pl,hz⟩:=I.list hq
  refine SeqAt.in_listAt (Mq x) pl.isList (fun w hw=>tw rx fx r fs w (by simpa using hw)) ⟨.bl _,H,I,rfl,?_⟩
  rw [show its.toArray.any (Mq x)=its.any (Mq x) by simp,yj r fs]
  exact q
 ·obtain ⟨its,r,pl,hz⟩:=I.tuple hq
  refine SeqAt.in_tupleAt (Mq x) pl (fun w hw=>tw rx fx r fs w (by simpa using hw)) ⟨.bl _,H,I,rfl,?_⟩
  rw [show its.toArray.any (Mq x)=its.any (Mq x) by simp,yj r fs]
  exact q
theorem yk:bM X (.builtin "len") (fun xs H Q=>∃ p ys,xs=[.ref p]/\(aP X.K H p ys\/aC X.K H p ys)/\Q (.int ys.length) H):=by
 intro pins s σ H xs us Q I r h
 obtain ⟨p,ys,rfl,hq,q⟩:=h
 obtain ⟨u,rfl,rx⟩:=vals1 r
 cases rx
 have hn:=oG
 rcases hq with hq|hq
 ·obtain ⟨its,r',pl,hz⟩:=I.list hq
  have hlen:=r'.length
  exact Calls.call_len_list pl.isList (by simp only [aaP] <;> lia) ⟨.int ys.length,H,I.tok _,⟨s.toks+1,by rw [aaP,hlen]⟩,q⟩
 ·obtain ⟨its,r',pl,hz⟩:=I.tuple hq
  have hlen:=r'.length
  exact len_tuple pl (by simp only [aaP] <;> lia) ⟨.int ys.length,H,I.tok _,⟨s.toks+1,by rw [aaP,hlen]⟩,q⟩
theorem yl:bM X (.builtin "len") (fun xs H Q=>∃ z,xs=[.str z]/\z.length<=sizeLine/\Q (.int z.length) H):=by
 intro pins s σ H xs us Q I r h
 obtain ⟨z,rfl,hz,q⟩:=h
 obtain ⟨u,rfl,t,rfl⟩:=vals1 r
 have hn:=oG
 exact len_str aaa ⟨.int z.length,H,I.tok _,⟨_,rfl⟩,q⟩
theorem ym:bM X (.type "list") (fun xs H Q=>∃ p ys,xs=[.ref p]/\(aP X.K H p ys\/aC X.K H p ys)/\∀ l,H l=none->Q (.ref l) (upd H l (.lst ys))):=by
 intro pins s σ H xs us Q I r h
 obtain ⟨p,ys,rfl,hq,q⟩:=h
 obtain ⟨u,rfl,rx⟩:=vals1 r
 cases rx
 have fin:∀ (its:List Value),Vals ys its->ys.length<=sizeLine->∀ (h':Heap) (c':Nat),(∀ b o',s.heap.get? b=some o'->h'.get? b=some o') ->
   h'.get? s.heap.objs.size=some { cls:=.type "list",dict:=none,data:=.seq its.toArray c',slots:=#[] }->EP X pins σ Q (.ref s.heap.objs.size) { s with heap:=h' }:=fun its r' hz h' c' kp e =>
  ⟨.ref s.heap.objs.size,_,I.laid (t':=s.toks) kp (aah _) (show cv X.prog X.w _ h' _ (.lst ys) from ⟨hz,its,c',r',e⟩),rfl,q _ (I.bh.fresh (aah _))⟩
 rcases hq with hq|hq
 ·obtain ⟨its,r',pl,hz⟩:=I.list hq
  have hlen:=r'.length
  obtain ⟨o,ho,hc,n,hd⟩:=pl.isList
  exact call_list_seq p (.inl rfl) ho hc hd (fun h' c' kp e=>fin its r' hz h' c' kp e) (by simp only [aaP] <;> lia)
 ·obtain ⟨its,r',pl,hz⟩:=I.tuple hq
  have hlen:=r'.length
  obtain ⟨o,ho,hc,n,hd⟩:=pl
  exact call_list_seq p (.inr rfl) ho hc hd (fun h' c' kp e=>fin its r' hz h' c' kp e) (by simp only [aaP] <;> lia)
theorem wo:bM X (.type "tuple") (fun xs H Q=>∃ p ys,xs=[.ref p]/\((aP X.K H p ys/\∀ l,H l=none->Q (.ref l) (upd H l (.tup ys)))\/(aC X.K H p ys/\Q (.ref p) H))):=by
 intro pins s σ H xs us Q I r h
 obtain ⟨p,ys,rfl,h⟩:=h
 obtain ⟨u,rfl,rx⟩:=vals1 r
 cases rx
 rcases h with ⟨hq,q⟩|⟨hq,q⟩
 ·obtain ⟨its,r',pl,hz⟩:=I.list hq
  have hlen:=r'.length
  refine call_tuple_list pl.isList (fun h' kp=>?_) (by simp only [aaP] <;> lia)
  have I1:Inv X pins σ H { s with heap:=h' }:=I.kept (t':=s.toks) kp
  have I2:Inv X pins σ (upd H h'.objs.size (.tup ys)) { s with heap:=h'.push { cls:=.type "tuple",data:=.seq its.toArray } } :=
   I1.laid (t':=s.toks) (fun b o e=>aab _ e) (aah _) (show cv X.prog X.w _ _ _ (.tup ys) from ⟨hz,its,r',IsTup.new _ _⟩)
  exact⟨.ref h'.objs.size,_,I2,rfl,q _ (I1.bh.fresh (aah _))⟩
 ·obtain ⟨its,r',pl,hz⟩:=I.tuple hq
  exact call_tuple_same pl ⟨.ref p,H,I,rfl,q⟩
def Xb(K:Frag)(T:String)(x:V)(H:Hp):Prop:=match x with
 | .str _=>T = "str"
 | .int _=>T = "int"
 | .ref p=>(T = "list"/\∃ xs,aP K H p xs)\/(T = "tuple"/\∃ o,K.lookup p=some o/\o.cls=.type "tuple"/\o.dict=none) \/
   (T = "dict"/\((∃ fv,H p=some (.dK fv))\/∃ fv,H p=some (.dT fv)))\/(T = "set"/\∃ S n,H p=some (.set S n))
 | _=>False
theorem Qa{T:String}(I:Inv X pins σ H s)(r:RelV x v)(ty:Xb X.K T x H):
  s.TypeIs v T/\∀ a,v=.ref a->∃ ob,s.heap.get? a=some ob/\ob.dict=none:=by
 cases x with
 | str z =>
  obtain ⟨t,rfl⟩:=r
  cases (show T = "str" from ty)
  exact⟨typeIs_str s z t,fun _ e=>nomatch e⟩
 | int i =>
  obtain ⟨t,rfl⟩:=r
  cases (show T = "int" from ty)
  exact⟨typeIs_int s i t,fun _ e=>nomatch e⟩
 | ref p =>
  cases r
  rcases ty with ⟨rfl,xs,hq⟩|⟨rfl,o,hk,hc,hd⟩|⟨rfl,hk⟩|⟨rfl,S,n,hk⟩
  ·obtain ⟨its,_,pl,_⟩:=I.list hq
   refine⟨pl.isList.typeIs,fun a e=>?_⟩
   cases e
   obtain ⟨o,n,e,c,hd,_⟩:=pl
   exact⟨o,e,hd⟩
  ·refine⟨⟨o,I.jq p o hk,hc⟩,fun a e=>?_⟩
   cases e
   exact⟨o,I.jq _ o hk,hd⟩
  ·have z:∃ o,s.heap.get? p=some o/\o.ExactDict:=by
    rcases hk with ⟨fv,hk⟩|⟨fv,hk⟩
    ·obtain ⟨_,_,_,_,o,_,_,e,ex,_⟩:=I.bh p _ hk
     exact⟨o,e,ex⟩
    ·obtain ⟨_,_,_,_,o,_,_,e,ex,_⟩:=I.bh p _ hk
     exact⟨o,e,ex⟩
   obtain ⟨o,e,ex⟩:=z
   refine⟨⟨o,e,ex.1⟩,fun a e2=>?_⟩
   cases e2
   exact⟨o,e,ex.2.1⟩
  ·obtain ⟨o,_,_,_,e,ex,_⟩:=I.bh p _ hk
   refine⟨⟨o,e,ex.1⟩,fun a e2=>?_⟩
   cases e2
   exact⟨o,e,ex.2.1⟩
 | _=>exact False.elim ty
def tBM(K:Frag)(T:String)(r:V->List V->Hp->VK->Prop)(to:TE)(t:TA):TE:=fun σ H Q=>to σ H fun x H1=>Xb K T x H1/\t σ H1 fun xs H2=>r x xs H2 Q
variable {o e:Expr}{es:List Expr}{to:TE}{t:TA}{name:Str}{apos rF:Pos}{T id:String}{r:V->List V->Hp->VK->Prop}
theorem fC(pa:PlainAttrs T)(slot:Slot T name id)(hty:typeOf (.builtin id)=pure (.type "method_descriptor"))(hm:P2 X id r)(ho:PE X o to)(ha:PA X (e::es) t)(Uo:attributeBase o name X.env (eval o X.env)=eval o X.env:=by rfl)(CI:((backTo rF (starEach (e::es) X.env)).all (fun x=>!x.1) && (backToKw rF (keywordEach [] X.env)).all (fun x=>x.1.isSome)
   && decide ((e::es).length+([]:List Keyword).length+(if ([]:List Keyword).isEmpty then 0 else 1)<30))=true:=by rfl)(Up:(apos.endLine == rF.line)=true:=by rfl)(hs:starEach (e::es) X.env=(false,eval e X.env)::starEach es X.env:=by rfl)(Qb:(backTo rF (starEach es X.env)).any (·.1)=false:=by rfl):
  PE X (.Call (.Attribute o name apos) (e::es) [] rF) (tBM X.K T r to t):=by
 intro pins s σ H Q I h
 refine wpAny_Call_method_late Uo CI Up rfl (cu (ho pins s σ H _ I h) fun v s1 ⟨x,H1,I1,r1,ty,q1⟩=>?_)
 obtain ⟨h1,h2⟩:=Qa I1 r1 ty
 refine⟨T,id,pa,slot,hty,h1,h2,?_⟩
 have hA:=ha rF pins s1 σ H1 _ I1 q1
 rw [hs] at hA ⊢
 refine Calls.callWith_builtin (by show (false || (backTo rF (starEach es X.env)).any (·.1))=false;rw [Qb] <;> rfl) (Calls.evalArgs_plain ?_)
 exact cu hA fun us s2 ⟨vs,H2,I2,r2,q2⟩=>hm pins s2 σ H2 x vs v us Q I2 r1 r2 q2
/- xs.append(e),list.index on a Uq tuple .. are P2 facts of 06m -/
end
def MtM(X:Cx)(id:String)(r:V->List V->Hp->VK->Prop):Prop :=
 ∀ (pins:List (Addr×Obj)) (s:Shared) (σ:St) (H:Hp) (x:V) (xs:List V) (v:Value) (us:List Value) (Q:VK),Inv X pins σ H s->RelV x v->Vals xs us->r x xs H Q ->
  wpAny (model X.prog X.w) X.A (call (.builtin id) (v::us)) (EP X pins σ Q) X.xe s
theorem Vals.one:∀ {x:V} {us:List Value},Vals [x] us->∃ u,us=[u]/\RelV x u
 | _,_,.cons r .nil=>⟨_,rfl,r⟩
section
variable {X:Cx}{pins:List (Addr×Obj)}{σ:St}{H:Hp}{s:Shared}{l b:Addr}{xs ys zs:List V}
theorem Inv.Yl{its its':List Value}{n:Nat}{f:Array Value->Array Value}{t':Nat}(I:Inv X pins σ H s)(hH:H l=some (.lst xs))
  (e:s.heap.get? l=some { cls:=.type "list",data:=.seq its.toArray n }) (hf:f its.toArray=its'.toArray) (hv:Vals ys its') (hz:ys.length<=sizeLine) :
  Inv X pins σ (upd H l (.lst ys)) { s with heap:=s.heap.update l (Obj.mapSeq f),toks:=t' }:=by
 have q:=PySem.IsL.update e f
 rw [hf] at q
 refine I.write (x:=l) (e:=l) (by rw [hH];exact trivial) (.inl rfl) (fun b' u hb hu=>(Heap.get?_update_other s.heap (Obj.mapSeq f) (Ne.symm hb)).trans hu) ⟨_,q⟩ ?_
 exact⟨hz,its',_,hv,q⟩
theorem Inv.Ur{t':Nat}(I:Inv X pins σ H s)(hv:Vals ys its)(hz:ys.length<=sizeLine):
  Inv X pins σ (upd H s.heap.objs.size (.lst ys)) { s with heap:=s.heap.push { cls:=.type "list",data:=.seq its.toArray },toks:=t' } :=
 I.laid (fun _ _ q=>aab _ q) (aah _) ⟨hz,its,0,hv,aaf _ rfl⟩
theorem Inv.fresh(I:Inv X pins σ H s):H s.heap.objs.size=none:=I.bh.fresh (aah _)
theorem Inv.Qd(I:Inv X pins σ H s)(hH:H l=some (.lst xs)):xs.length<=sizeLine/\∃ (its:List Value) (n:Nat),Vals xs its/\xs.length=its.length/\s.heap.get? l=some { cls:=.type "list",data:=.seq its.toArray n }:=by
 obtain ⟨z,its,n,r,e⟩:=I.bh l _ hH
 exact⟨z,its,n,r,r.length,e⟩
end
section
variable {X:Cx}
def EA:V->List V->Hp->VK->Prop:=fun x vs H Q=>∃ l xs y,x=.ref l/\vs=[y]/\H l=some (.lst xs)/\xs.length<sizeLine/\Q .cJ (upd H l (.lst (xs++[y])))
theorem dN:MtM X "list.append" EA:=by
 intro pins s σ H x vs v us Q I rx rv h
 obtain ⟨l,xs,y,rfl,rfl,hH,hz,q⟩:=h
 cases rx
 obtain ⟨u,rfl,ru⟩:=rv.one
 obtain ⟨z,its,n,r,hl,e⟩:=I.Qd hH
 refine call_meets F.slot_list_append ⟨_,e,rfl⟩ F.entry_list_append (F.args_list_append_2 _ _) (PySem.list_append l its.toArray n u (by rw [aaP];lia)) ⟨e,?_⟩
 refine⟨.cJ,_,I.Yl (its':=its++[u]) hH e (by simp) (r.append (.cons ru .nil)) ?_,rfl,q⟩
 rw [aaA,List.length_singleton]
 lia
def Us:R2:=fun x y H Q=>∃ l b xs zs,x=.ref l/\y=.ref b/\H l=some (.lst xs)/\H b=some (.lst zs)/\xs.length+zs.length<=sizeLine/\∀ p,H p=none->Q (.ref p) (upd H p (.lst (xs++zs)))
theorem gQ:gq X (binaryOp .Add) Us:=by
 intro pins s σ H x y v u Q I rx ry h
 obtain ⟨l,b,xs,zs,rfl,rfl,hH,hB,hz,q⟩:=h
 cases rx
 cases ry
 obtain ⟨z,its,n,r,hl,e⟩:=I.Qd hH
 obtain ⟨z2,Im,n2,r2,Iv,e2⟩:=I.Qd hB
 refine PySem.P.add_list e e2 ?_ (by rw [aaP,aaP];lia)
 have ea:its.toArray++Im.toArray=(its++Im).toArray:=by simp
 rw [ea]
 exact⟨.ref _,_,I.Ur (t':=s.toks) (r.append r2) (by rw [aaA];lia),rfl,q _ I.fresh⟩
end
end L2
namespace Att
open PySem PySem.W PySem.Calls PyProof.Rows
theorem rG:∀ (ns:List Int) (vs:List Value),WellAll P h vs (ns.map WData.int)->IntsAre vs ns:=by
 intro ns
 induction ns with
 | nil =>
  intro vs w
  rw [map_nil] at w
  cases w
  exact .nil
 | cons n ns ih =>
  intro vs w
  rw [map_cons] at w
  cases w with
  | cons a b =>
   cases a
   exact .cons _ _ (ih _ b)
theorem FG{l:OpenLaw}{n:Nat}(hn:l.most=some n){P:Params}{h:Heap}{args:List WData}{vals:List Value}
  (Mr:l.row.toRowW.claim.pre args=true) (Ym:WellAll P h vals args) :
  ∃ a vs ns,vals=[Value.ref a]/\args=[WData.list (ns.map WData.int)]/\h.get? a=some { cls:=.type "list",data:=.seq vs.toArray }/\IntsAre vs ns/\ns.length<=n:=by
 have hsh:WShape.hasAll [] args [.list .int]=true:=(pre_splitW Mr).1
 have hc:l.pre.holds [] { args:=args }=true:=(pre_splitW Mr).2
 obtain ⟨d,r,rfl,h1,h2⟩:=hasAllW_cons hsh
 obtain rfl:=hasAllW_nil h2
 obtain ⟨xs,rfl,h3⟩:=hasW_list h1
 obtain ⟨ns,rfl⟩:=items_int h3
 have hlen:ns.length<=n:=by
  unfold OpenLaw.pre at hc
  have h4:(WTm.not (.lt (.lit (.int (n:Int))) (.len (.arg 0)))).holds [] { args:=[.list (ns.map .int)] }=true:=by
   have h4:=(holds_andW hc).1
   rw [hn] at h4
   exact h4
  have h5:=condW_of h4 (w_not (w_lt w_lit (w_len_list (w_arg rfl))))
  rw [aaz] at h5
  refine Nat.le_of_not_lt fun q=>?_
  have q':(n:Int)<((ns.length:Nat):Int):=by lia
  first
   | (rw [aan q'] at h5;exact absurd h5 aa8)
   | (simp at h5;lia)
 cases Ym with
 | cons w1 w2 =>
  cases w2
  cases w1 with
  | list ho ni=>exact⟨_,_,ns,rfl,rfl,ho,rG ns _ ni,hlen⟩
theorem FH(l:OpenLaw)(args:List WData):l.row.toRowW.claim.post args (.bool true) args=true :=
 postW_of (r:=l.row.toRowW) (X:=(true == true))
  (show WShape.has [] (.bool true) .bool=true by first|rfl|decide|simp [WShape.has,WShape.arms,WShape.armsAll])
  (show (WTm.eq .res (.lit (.bool true))).value [] { args:=args,res:=some (.bool true),after:=args }=some (.bool (true == true)) from w_eq_bool (w_res rfl) w_lit) rfl
theorem Ao{l:OpenLaw}{n:Nat}{q:Program}{loose:List Str}{XP:(Str->Option Value)->Heap->Prop}{YP:World->Heap->Prop}{d:DefRec}
  (hn:l.most=some n) (Yn:d.params.defaults=[])
  (call:∀ (w:World) (s₀ s₁:Shared) (mg mb:Str->Option Value) (fa:Addr) (o:Obj) (pm cd doc:Value) (a:Addr) (vs:List Value) (ns:List Int),
   Ground q loose [] XP w s₀ mg mb s₁.heap->YP w s₁.heap ->
   s₁.heap.get? fa=some o->o.data=.func (docDef d.name d.params d.body d.scope pm cd doc)->s₁.heap.CodeRec cd d.name->mg d.name=some (.ref fa) ->
   s₁.heap.get? a=some { cls:=.type "list",data:=.seq vs.toArray }->IntsAre vs ns->ns.length<=n->s₁.gens=#[] ->
   codeAny (model l.prog w) callerA (.call (.ref fa) ⟨[.ref a],[]⟩) (fun r s'=>r=.ok (.ret (.bool true))/\OldK s₁.heap s'.heap/\s'.os=s₁.os/\AllBare s'.gens) s₁) :
  WalkO q loose XP YP l.row.toRowW d [] (fun f vs=>PySem.call f vs):=by
 intro w s₀ s₁ mg mb G Y fa o pm cd doc dV kV ho hd lS hD Ut hg args vals as Mr hlay hrd Ym hlo
 obtain rfl:dV=.none:=Dflts.none hD Yn
 obtain rfl:kV=.none:=Dflts.noKw hD
 obtain ⟨a,vs,ns,rfl,rfl,Qe,hints,hlen⟩:=FG hn Mr Ym
 refine enter_call (codeAny_mono (call w s₀ s₁ mg mb fa o pm cd doc a vs ns G Y ho (fd_plain hd) lS Ut Qe hints hlen hg) fun r s' hq=>?_)
 obtain ⟨rfl,h2,h3,h4⟩:=hq
 exact⟨.inl ⟨.bool true,.bool true,[],rfl,fun _=>rfl,.bool true,FH l _,fun _=>⟨List.Pairwise.nil,fun _ hm=>(nomatch hm)⟩⟩,h2,h3,h4⟩
section
variable {prog:Program}{w:World}{A:Around}{E:Value->Shared->Prop}{s:Shared}{K:Frag}
end
end Att
namespace L2
open PySem PySem.Spec PyProof.Rows
theorem xv:∀ {vs:List Value} {ns:List Int},IntsAre vs ns->Vals (ns.map V.int) vs
 | _,_,.nil=>.nil
 | _,_,.cons n t h=>.cons ⟨t,rfl⟩ (xv h)
def cV(s:Stmt):Arguments:=match s with
 | .FunctionDef _ a _ _ _ _ _ _ _ _=>a
 | _=>{ posonlyargs:=[],args:=[],vararg:=none,kwonlyargs:=[],kw_defaults:=[],kwarg:=none,defaults:=[] }
def bw(s:Stmt):List Stmt:=match s with
 | .FunctionDef _ _ b _ _ _ _ _ _ _=>b
 | _=>[]
def al(s:Stmt):Scope:=match s with
 | .FunctionDef _ _ _ _ _ _ sc _ _ _=>sc
 | _=>{ kind:=.function,names:=[],isGenerator:=false,isCoroutine:=false }
abbrev CJ:CB:=fun _ _ _ _ _ _=>False
abbrev E0:XK:=fun _ _ _=>False
theorem Oo:Passes CJ X E0:=fun _ _ _ _ _ _ _ h=>h.elim
structure Ms(K:Frag)(x qual:Str)(st:Stmt)(f:Addr)(fd:FuncData):Prop where
 ex:∃ (oc:Value) (od:Option Addr) (kV doc pm:Value) (an:Option Addr) (bf ct:Value) (An:Array (Option Value)),
  fd=PySem.W.fnOf x qual (cV st) (bw st) (al st) .none kV doc pm an bf ct/\K.lookup f=some ⟨oc,od,.func fd,An⟩/\PySem.W.codeIn K bf qual=true
 kp:PySem.W.keepIn K (.ref f)=true
section
variable {P:Program}{w:World}{K:Frag}{mg:Str->Option Value}{base:Heap}
theorem Ms.ok{x qual:Str}{st:Stmt}{f:Addr}{fd:FuncData}{N ps:List Str}{k:Nat}{sp:Sp}(F:Ms K x qual st f fd)(S:ao N ps (al st))(len:∀ vs H Q E,sp vs H Q E->vs.length=ps.length)
  (di:∀ (bf:Value) (A:Around) (outer:List Env) (s:Shared) (H:Hp) (vs:List V) (Q:VK) (E:XK),bK k (A.deeper (envOfC qual (al st) s.heap.objs.size f bf))->sp vs H Q E ->
   ∃ t,oB (gP CJ P w K mg base N qual (al st) f bf A outer s H E).Cp (bw st) t/\t { nx:=fun _ H'=>Q .cJ H',rt:=Q } (start N vs) H):lh P w K mg base CJ (k+1) f fd ps sp:=by
 obtain ⟨oc,od,kV,doc,pm,an,bf,ct,An,rfl,lk,lS⟩:=F.ex
 refine Am lk lS S len fun A outer s H vs Q E hr lX=>?_
 obtain ⟨t,h,q⟩:=di bf A outer s H vs Q E hr lX
 exact⟨t,h.Cp,q⟩
theorem Ms.binds{x qual:Str}{st:Stmt}{f:Addr}{fd:FuncData}{ps:List Str}(F:Ms K x qual st f fd)
  (h:∀ (kV doc pm:Value) (an:Option Addr) (bf ct:Value) (us:List Value),us.length=ps.length->bindArgs (PySem.W.fnOf x qual (cV st) (bw st) (al st) .none kV doc pm an bf ct) ⟨us,[]⟩=pure (ps.zip us)):Binds K fd ps []:=by
 obtain ⟨oc,od,kV,doc,pm,an,bf,ct,An,rfl,lk,lS⟩:=F.ex
 exact .all (h kV doc pm an bf ct)
theorem yo{x qual:Str}{st:Stmt}{f:Addr}{oc:Value}{od an:Option Addr}{An:Array (Option Value)}{kV doc pm bf ct:Value}(l:K.lookup f=some ⟨oc,od,.func (PySem.W.fnOf x qual (cV st) (bw st) (al st) .none kV doc pm an bf ct),An⟩)
  (c:PySem.W.codeIn K bf qual=true) (k:PySem.W.keepIn K (.ref f)=true):Ms K x qual st f (PySem.W.fnOf x qual (cV st) (bw st) (al st) .none kV doc pm an bf ct):=⟨⟨oc,od,kV,doc,pm,an,bf,ct,An,rfl,l,c⟩,k⟩
end
theorem Iw{k:Nat}(hr:bK k A):A.units+1<cLine:=aaG (Nat.add_le_add_left (by decide:1<=64) _) hr.units
theorem dO{n:Nat}(h:n<=1000):n<sizeLine:=aaG h aa8
section
variable {X:Cx}
theorem pv(i:Nat)(hN:X.N[i]?=some x:=by rfl)(hv:SY X.env.scope x:=by first|exact Or.inl rfl|exact Or.inr (Or.inl rfl)|exact Or.inr (Or.inr rfl))(hd:(x == ("__debug__":Str))=false:=by decide)(lS:(x == ("__classdict__":Str))=false:=by decide):PE X (.Name x pos) (sV i):=HP hN hv hd lS
end
theorem Iy{A B:Prop}(h:B):if false=true then A else B:=by
 rw [if_neg Bool.false_ne_true]
 exact h
theorem FI{A B:Prop}(h:A):if true=true then A else B:=by
 rw [if_pos rfl]
 exact h
def aj(H H':Hp):Prop:=∀ b o,H b=some o->H' b=some o
theorem aj.refl(H:Hp):aj H H:=fun _ _ h=>h
theorem aj.trans(a:aj H H1)(b:aj H1 H2):aj H H2:=fun c o h=>b c o (a c o h)
theorem aj.seq{K:Frag}{H H':Hp}{a:Addr}{xs:List V}(e:aj H H')(h:aP K H a xs):aP K H' a xs:=by
 rcases h with (h|⟨o,h⟩)|h
 ·exact .inl (.inl (e _ _ h))
 ·exact .inl (.inr ⟨o,e _ _ h⟩)
 ·exact .inr h
end L2
namespace L2
open PySem
def dS(cells:List (Str×Addr)):List (Str×NameKind)->List (Str×Addr)->List (Str×Addr)
 | [],acc=>acc
 | (n,k)::r,acc=>dS cells r (if k == .free then (match cells.lookup n with|some c=>(n,c)::acc|none=>acc) else acc)
theorem tx(h:∀ p∈scope.names,p.2=.free->∃ c,env.cells.lookup p.1=some c):closureFor scope env=pure (dS env.cells scope.names []):=by
 have key:∀ (names:List (Str×NameKind)) (acc:List (Str×Addr)),(∀ p∈names,p.2=.free->∃ c,env.cells.lookup p.1=some c) ->
   (forIn names acc (fun (x:Str×NameKind) (cs:List (Str×Addr))=>if (x.2 == NameKind.free)=true then (do let c <- cellOf env x.1;pure (ForInStep.yield ((x.1,c)::cs))) else pure (ForInStep.yield cs)):Sem (List (Str×Addr)))=pure (dS env.cells names acc):=by
  intro names
  induction names with
  | nil=>intro acc _;rfl
  | cons p r ih =>
   intro acc hp
   obtain ⟨n,k⟩:=p
   rw [forIn_cons]
   by_cases hk:k=.free
   ·subst hk
    obtain ⟨c,hc⟩:=hp (n,.free) mem_cons_self rfl
    have e:cellOf env n=pure c:=by unfold cellOf;rw [show env.cells.lookup n=some c from hc]
    show (if (NameKind.free == NameKind.free)=true then _ else _) >>= _=_
    rw [if_pos (by rfl)]
    dsimp only
    rw [e]
    show (forIn r ((n,c)::acc) _:Sem _)=_
    rw [ih _ fun q hq=>hp q (aaB _ hq)]
    simp [dS,show env.cells.lookup n=some c from hc]
   ·have oJ:(k == NameKind.free)=false:=by simpa using hk
    show (if (k == NameKind.free)=true then _ else _) >>= _=_
    rw [if_neg (by rw [oJ];exact Bool.false_ne_true)]
    show (forIn r acc _:Sem _)=_
    rw [ih _ fun q hq=>hp q (aaB _ hq)]
    simp [dS,oJ]
 unfold closureFor
 have k:=key scope.names [] h
 exact (congrArg (fun m:Sem (List (Str×Addr))=>m >>= fun cs=>pure cs) k).trans rfl
theorem tD:∀ {names:List (Str×NameKind)} {acc:List (Str×Addr)},(∀ x c,acc.lookup x=some c->cells.lookup x=some c)->∀ x c,(dS cells names acc).lookup x=some c->cells.lookup x=some c
 | [],acc,h,x,c,e=>h x c e
 | (n,k)::r,acc,h,x,c,e=>by
  refine tD (names:=r) (fun y d q=>?_) x c e
  split at q
  ·split at q
   ·rename_i c0 hc0
    rw [lookup_cons] at q
    split at q
    ·rename_i hy
     have Qf:y=n:=by simpa using hy
     subst Qf
     rw [hc0];exact q
    ·exact h y d q
   ·exact h y d q
  ·exact h y d q
theorem tF:∀ {names:List (Str×NameKind)} {acc:List (Str×Addr)} {x:Str},(acc.lookup x).isSome=true\/((x,NameKind.free)∈names/\(cells.lookup x).isSome=true)->((dS cells names acc).lookup x).isSome=true
 | [],acc,x,h=>by
  rcases h with h|h
  ·exact h
  ·exact absurd h.1 (by simp)
 | (n,k)::r,acc,x,h=>by
  refine tF (names:=r) ?_
  rcases h with h|⟨hm,hc⟩
  ·left
   split
   ·split
    ·rw [lookup_cons];split
     ·rfl
     ·exact h
    ·exact h
   ·exact h
  ·rcases aaC.mp hm with e|hm
   ·injection e with e1 e2
    subst e1;subst e2
    left
    rw [if_pos (by rfl)]
    cases hq:cells.lookup x with
    | none=>rw [hq] at hc;cases hc
    | some c=>simp
   ·exact .inr ⟨hm,hc⟩
section
variable {prog:Program}{w:World}{A:Around}
theorem FJ(hE:∀ e s',E e s'->notedBy (model prog w) A env (fun e s'=>R (.error e) s') e s')(I:Nat->Shared->Prop)(turn:∀ n s,I n s->wpAny (model prog w) A (pyNext it) (fun r s₁=>match r with
   | none=>R (.ok .next) s₁
   | some v=>wpAny (model prog w) A (letOwnedTupleGo target it v) (fun _ s₁'=>wpAny (model prog w) A (assign target env v) (fun _ s₂ =>
     wpAny (model prog w) A (forIn ifs true fun c r=>if r=true then do let ok <- isTrue c env (eval c env);pure (ForInStep.yield ok) else pure (ForInStep.yield r)) (fun ok s₃ =>
      if ok=true then wpAny (model prog w) A (eval elt env) (fun x s₄ =>
       wpAny (model prog w) A (call (.builtin "list.append") [acc,x]) (fun _ s₅=>∃ m,m<n/\I m s₅) E s₄) E s₃
      else ∃ m,m<n/\I m s₃) E s₂) E s₁') E s₁) E s)(n:Nat)(h:I n s):
  codeAny (model prog w) A (.compLoop (.ListComp elt [⟨target,iter,ifs,0⟩] scope pos) 0 it acc env) R s:=by
 have xw:∀ {α:Type} {t:Sem α} {Q:α->Shared->Prop} {s:Shared},wpAny (model prog w) A t Q E s->wpAny (model prog w) A t Q (notedBy (model prog w) A env fun e s'=>R (.error e) s') s:=fun q=>aaq q (fun _ _ z=>z) hE
 refine codeAny_loop rfl I (fun n s hI=>?_) n h
 show wpAny _ A ((compTurn (.ListComp elt [⟨target,iter,ifs,0⟩] scope pos) 0 it acc env).onRaise (fun x=>do noteFrame x env;theTreesLotGoes x)) _ _ s
 refine wpAny_noted ?_
 rw [compTurn_list]
 refine aac (wpAny_standAt (aac (aaq (xw (turn n s hI)) (fun r s₁ h₁=>?_) fun _ _ h'=>h')))
 cases r with
 | none=>exact aap h₁
 | some v =>
  refine aac (aaq (xw h₁) (fun _ s₁' h₁'=>?_) fun _ _ h'=>h')
  refine aac (aaq (xw h₁') (fun _ s₂ h₂=>aac (aaq (xw h₂) (fun ok s₃ h₃=>?_) fun _ _ h'=>h')) fun _ _ h'=>h')
  cases ok with
  | false=>exact aap ⟨rfl,h₃⟩
  | true =>
   simp only [if_true] at h₃ ⊢
   exact aac (aac (aaq (xw h₃) (fun x s₄ h₄=>aac (aaq (xw h₄) (fun _ s₅ h₅=>aap (aap ⟨rfl,h₅⟩)) fun _ _ h'=>h')) fun _ _ h'=>h'))
end
open PySem PySem.Spec PyProof.Rows
abbrev bL(X:Cx)(pins:List (Addr×Obj))(N:List Str)(scope:Scope)(C:Addr)(s:Shared)(H:Hp)(fp:List Addr):Cx :=
 { X with N:=N,s₀:=s,H₀:=H,env:=compEnvC scope (dS X.env.cells scope.names []) C X.env,outer:=X.stack,stack:=X.stack,ex:=fp,fn:=fun _=>false,pn:=X.pn++pins,xe:=fun _ _=>False }
def pick(ix:List (Option Nat))(σ:St):St:=ix.map fun o=>o.bind fun j=>(σ[j]?).join
def jr(X:Cx)(scope:Scope):List Str->List (Option Nat)->Prop
 | [],[]=>True
 | _::N,none::ix=>jr X scope N ix
 | x::N,some j::ix=>(X.N[j]?=some x/\SY X.env.scope x/\(X.env.scope.names.lookup x == some .local)=false/\scope.names.lookup x=some .free)/\jr X scope N ix
 | _,_=>False
theorem jr.len:∀ {N:List Str} {ix:List (Option Nat)},jr X scope N ix->ix.length=N.length
 | [],[],_=>rfl
 | [],none::_,h=>h.elim
 | [],some _::_,h=>h.elim
 | _::_,[],h=>h.elim
 | _::N,none::ix,h=>by simp only [length_cons];rw [jr.len (N:=N) (ix:=ix) h]
 | _::N,some _::ix,h=>by simp only [length_cons];rw [jr.len (N:=N) (ix:=ix) h.2]
theorem jr.get:∀ {N:List Str} {ix:List (Option Nat)} {i j:Nat} {x:Str},jr X scope N ix->N[i]?=some x->ix[i]?=some (some j) ->
  X.N[j]?=some x/\SY X.env.scope x/\(X.env.scope.names.lookup x == some .local)=false/\scope.names.lookup x=some .free
 | [],[],_,_,_,_,h,_=>by simp at h
 | [],none::_,_,_,_,h,_,_=>h.elim
 | [],some _::_,_,_,_,h,_,_=>h.elim
 | _::_,[],_,_,_,h,_,_=>h.elim
 | _::N,none::ix,0,_,_,_,_,e=>by simp at e
 | _::N,none::ix,i+1,_,_,h,h1,e=>jr.get (N:=N) (ix:=ix) (i:=i) h (by simpa using h1) (by simpa using e)
 | y::N,some k::ix,0,j,x,h,h1,e=>by
  simp at h1 e
  subst h1;subst e
  exact h.1
 | _::N,some _::ix,i+1,_,_,h,h1,e=>jr.get (N:=N) (ix:=ix) (i:=i) h.2 (by simpa using h1) (by simpa using e)
theorem Ap{i:Nat}(h:(pick ix σ)[i]?=some (some v)):∃ j,ix[i]?=some (some j)/\σ[j]?=some (some v):=by
 unfold pick at h
 rw [aaQ] at h
 cases e:ix[i]? with
 | none=>rw [e] at h;cases h
 | some o =>
  rw [e] at h
  cases o with
  | none=>cases h
  | some j =>
   refine⟨j,rfl,?_⟩
   have h':(σ[j]?).join=some v:=aaj h
   cases q:σ[j]? with
   | none=>rw [q] at h';cases h'
   | some z=>rw [q] at h';have h2:z=some v:=h';rw [h2]
theorem gw{env : Env} : ∀ {names : List (Str × NameKind)} {x : Str}, (∀ y ∈ names, y.2 ≠ .cell) ->
    ((names.map fun (n, k) => if (k == NameKind.free && env.scope.kind == .function && env.kindOf n == some .cell) then (n, NameKind.cell) else (n, k)).lookup x=some .cell \/
     (names.map fun (n, k) => if (k == NameKind.free && env.scope.kind == .function && env.kindOf n == some .cell) then (n, NameKind.cell) else (n, k)).lookup x=some .free) -> names.lookup x=some .free
  | [], _, _, h => by simp at h
  | (n, k)::r, x, hc, h => by
    have ih := @gw env r x fun y hy => hc y (aaB _ hy)
    have hk : k ≠ .cell := hc (n, k) mem_cons_self
    rw [map_cons] at h
    cases hx : x == n with
    | true =>
      rw [lookup_cons, hx]
      by_cases rH : (k == NameKind.free && env.scope.kind == .function && env.kindOf n == some .cell)=true
      · have : k=.free := by
          simp only [Bool.and_eq_true, beq_iff_eq] at rH
          exact rH.1.1
        rw [this]
      · simp only [rH, Bool.false_eq_true, if_false, lookup_cons, hx] at h
        rcases h with h|h
        · exact absurd (aaj h) hk
        · exact h
    | false =>
      rw [lookup_cons, hx]
      refine ih ?_
      by_cases rH : (k == NameKind.free && env.scope.kind == .function && env.kindOf n == some .cell)=true
      · simp only [rH, if_true, lookup_cons, hx] at h
        exact h
      · simp only [rH, Bool.false_eq_true, if_false, lookup_cons, hx] at h
        exact h
theorem nj{env : Env} : ∀ {names : List (Str × NameKind)} {x : Str}, names.lookup x=some .free ->
    ((names.map fun (n, k) => if (k == NameKind.free && env.scope.kind == .function && env.kindOf n == some .cell) then (n, NameKind.cell) else (n, k)).lookup x=some .cell \/
     (names.map fun (n, k) => if (k == NameKind.free && env.scope.kind == .function && env.kindOf n == some .cell) then (n, NameKind.cell) else (n, k)).lookup x=some .free)
  | [], _, h => by simp at h
  | (n, k)::r, x, h => by
    have ih := @nj env r x
    rw [map_cons]
    cases hx : x == n with
    | true =>
      rw [lookup_cons, hx] at h
      have hk : k=.free := aaj h
      subst hk
      by_cases rH : (NameKind.free == NameKind.free && env.scope.kind == .function && env.kindOf n == some .cell)=true
      · simp only [rH, if_true, lookup_cons, hx];exact .inl trivial
      · simp only [rH, Bool.false_eq_true, if_false, lookup_cons, hx];exact .inr trivial
    | false =>
      rw [lookup_cons, hx] at h
      by_cases rH : (k == NameKind.free && env.scope.kind == .function && env.kindOf n == some .cell)=true
      · simp only [rH, if_true, lookup_cons, hx];exact ih h
      · simp only [rH, Bool.false_eq_true, if_false, lookup_cons, hx];exact ih h
def Td(Y:Cx):List Expr->TT->Prop
 | [],t=>t=fun _ H Q=>Q true H
 | [c],t=>PT Y c t
 | _,_=>False
def aV(ix:List (Option Nat))(g:TG)(tt:TT)(te:TE)(σ:St)(Q:VK)(J:It)(H1:Hp):Prop:=∀ l,H1 l=none->∃ W:Nat->Nat->St->List V->Hp->Prop,
 (∃ m,W 0 m (pick ix σ) [] (upd H1 l (.lst [])))/\∀ i m σ1 ys H',W i m σ1 ys H'->H' l=some (.lst ys)/\((J.stop i H'/\Q (.ref l) H') \/
  (J.go i H'/\∃ m',m'<m/\∀ x H2,J.Eg i H' x H2->g x σ1 H2 fun σ2 H3=>tt σ2 H3 fun b H4=>if b=true then te σ2 H4 fun y H5=>H5 l=some (.lst ys)/\ys.length<sizeLine/\W (i+1) m' σ2 (ys++[y]) (upd H5 l (.lst (ys++[y]))) else W (i+1) m' σ2 ys H4))
def Aq(ix:List (Option Nat))(wi:TI)(g:TG)(tt:TT)(te:TE):TE:=fun σ H Q=>wi σ H fun J H1=>aV ix g tt te σ Q J H1
theorem Un.letGo(u:Un fs ex H H' h h1)(hC:h.objs.size<=C)(sb:Heap.SameBut C h1 h2):Un fs ex H H' h h2:=by
 have ne:∀ b o,h.get? b=some o->b≠C:=fun b o e=>aa1 (Nat.lt_of_lt_of_le (aae e) hC)
 refine⟨fun b o e n hb hx=>(sb.2 b (ne b o e)).trans (u.keep b o e n hb hx),fun b o e n hb hx=>?_,u.free,fun b o e hx=>?_,u.lR,u.k8,u.k9⟩
 ·obtain ⟨sl,q⟩:=u.slot b o e n hb hx
  exact⟨sl,(sb.2 b (ne b o e)).trans q⟩
 ·obtain ⟨o',q⟩:=u.there b o e hx
  exact⟨o',(sb.2 b (ne b o e)).trans q⟩
theorem gO.letGo(x:gO P w H h)(hC:H C=none)(sb:Heap.SameBut C h h'):gO P w H h':=fun a o e=>by
 have na:∀ b u,H b=some u->b≠C:=fun b u q z=>by rw [z,hC] at q;cases q
 refine (x a o e).rB (fun b u hb q=>(sb.2 b ?_).trans q) (fun _ q=>q) fun _ _ q=>q
 rcases hb with rfl|hb
 ·exact na _ _ e
 ·exact na _ _ hb
section
variable {X:Cx}
theorem IA(ht:Td Y ifs tt)(I:Inv Y pins σ H s)(h:tt σ H Q):
  wpAny (model Y.prog Y.w) Y.A (forIn ifs true fun c r=>if r=true then do let ok <- isTrue c Y.env (eval c Y.env);pure (ForInStep.yield ok) else pure (ForInStep.yield r)) (TP Y pins σ Q) Y.xe s:=by
 match ifs,ht with
 | [],ht =>
  have e:tt=fun _ H Q=>Q true H:=ht
  subst e
  exact wpAny_tests_nil ⟨H,I,h⟩
 | [c],ht=>exact wpAny_tests_one ((show PT Y c tt from ht) pins s σ H Q I h)
 | _::_::_,ht=>exact False.elim ht
structure Oq(ok:Cx->Prop)(P:Program)(w:World)(K:Frag)(tg:Expr)(J:It)(fp:List Addr)(it:Addr)(tn:Nat->Heap->Prop):Prop where
 obj:∀ i h,tn i h->∀ b∈fp,∃ o,h.get? b=some o/\∀ v,o.data≠.cell v
 keep:∀ i h h',tn i h->(∀ b∈fp,∀ o,h.get? b=some o->h'.get? b=some o)->tn i h'
 item:∀ (X:Cx),X.prog=P->X.w=w->X.K=K->ok X->∀ (i:Nat) (pins:List (Addr×Obj)) (s:Shared) (σ:St) (H:Hp) (E:Value->Shared->Prop),Inv X pins σ H s->(∀ b∈fp,lg X pins H b)->tn i s.heap->J.go i H ->
  wpAny (model P w) X.A (pyNext (.ref it)) (fun r s1=>∃ u,r=some u /\
   wpAny (model P w) X.A (letOwnedTupleGo tg (.ref it) u) (fun _ s2=>∃ x H',Inv X pins σ H' s2/\RelV x u/\J.Eg i H x H'/\tn (i+1) s2.heap/\∀ b∈fp,H' b=none) E s1) E s
 done:∀ (X:Cx),X.prog=P->X.w=w->X.K=K->ok X->∀ (i:Nat) (pins:List (Addr×Obj)) (s:Shared) (σ:St) (H:Hp) (E:Value->Shared->Prop),Inv X pins σ H s->(∀ b∈fp,lg X pins H b)->tn i s.heap->J.stop i H ->
  wpAny (model P w) X.A (pyNext (.ref it)) (fun r s1=>r=none/\Inv X pins σ H s1) E s
 self:∀ (A:Around) (i:Nat) (s:Shared) (Q:Value->Shared->Prop) (E:Value->Shared->Prop),tn i s.heap->Q (.ref it) s->wpAny (model P w) A (pyIter (.ref it)) Q E s
def Yo(ok:Cx->Prop)(X:Cx)(pins:List (Addr×Obj))(σ:St)(tg:Expr)(R:It->Hp->Prop)(SZ:Value)(s2:Shared):Prop :=
 ∃ (it:Addr) (fp:List Addr) (tn:Nat->Heap->Prop) (J:It) (H':Hp),SZ=.ref it/\Inv X pins σ H' s2/\Oq ok X.prog X.w X.K tg J fp it tn/\tn 0 s2.heap/\(∀ b∈fp,lg X pins H' b)/\R J H'
def Xc(ok:Cx->Prop)(X:Cx)(tg iter:Expr)(wi:TI):Prop :=
 ∀ (pins:List (Addr×Obj)) (s:Shared) (σ:St) (H:Hp) (R:It->Hp->Prop),Inv X pins σ H s->wi σ H R ->
  wpAny (model X.prog X.w) X.A (eval iter X.env) (fun v s1=>wpAny (model X.prog X.w) X.A (pyIter v) (Yo ok X pins σ tg R) X.xe s1) X.xe s
theorem PI.c(h:PI X tg iter wi):Xc (fun Y=>Y.calm=true) X tg iter wi:=fun pins s σ H R I q =>
 cu (h pins s σ H R I q) fun v s1 h1=>cu h1 fun SZ s2 ⟨it,fp,tn,J,H',e,I2,T,z⟩=>⟨it,fp,tn,J,H',e,I2,⟨T.obj,T.keep,T.item,T.done,T.self⟩,z⟩
theorem xx{ok:Cx->Prop}{use:Option (Value->Sem Unit)}(hc:∀ pins C s H fp,ok (bL X pins N scope C s H fp))(hi:Xc ok X tg iter wi)(hg:∀ pins C s H fp,PG (bL X pins N scope C s H fp) tg g)(ht:∀ pins C s H fp,Td (bL X pins N scope C s H fp) ifs tt)(he:∀ pins C s H fp,PE (bL X pins N scope C s H fp) elt te)(hk:scope.kind=.function)(dJ:∀ y∈scope.names,y.2≠.cell)(iJ:∀ y∈scope.names,y.2=.local->scope.names.lookup y.1=some .local)(jt:(scope.names.all fun y=>!(y.2 == NameKind.free) || (X.env.cells.lookup y.1).isSome)=true)(Ar:jr X scope N ix)(hs:∀ x,foldedSetIterable iter X.env x=pure x)(I:Inv X pins σ H s)(h:wi σ H fun J H1=>aV ix g tt te σ Q J H1)(fin:∀ (s3 s6:Shared) (H3 H5:Hp) (fp:List Addr) (acc:Addr) (σ6:St),Inv X pins σ H3 s3->(∀ b∈fp,lg X pins H3 b)->Inv (bL X pins N scope s3.heap.objs.size s3 H3 fp) [] σ6 H5 s6->Q (.ref acc) H5->compPost (model X.prog X.w) X.A X.xe use Q0 (.ref acc) s3.heap.objs.size (.ok .next) s6):
  wpAny (model X.prog X.w) X.A (comprehension (.ListComp elt [⟨tg,iter,ifs,0⟩] scope pos) scope X.env pos' (newList []) false (eval iter X.env) use) Q0 X.xe s:=by
 have wt:∀ y∈scope.names,y.2=.free->(X.env.cells.lookup y.1).isSome=true:=fun y hy e=>by
  have z:=all_eq_true.mp jt y hy
  rw [e] at z
  simpa using z
 have Qg:∀ p∈scope.names,p.2=.free->∃ c,X.env.cells.lookup p.1=some c:=fun p hp e=>aao.mp (wt p hp e)
 have iq:∀ x c,(dS X.env.cells scope.names []).lookup x=some c->X.env.cells.lookup x=some c:=tD (fun x c q=>by simp at q)
 have As:∀ x,scope.names.lookup x=some .free->∃ c,(dS X.env.cells scope.names []).lookup x=some c:=fun x hx=>by
  have hm:=PySem.mem_of_lookup hx
  exact aao.mp (tF (.inr ⟨hm,wt _ hm rfl⟩))
 refine wpAny_comprehension_free (use:=use) rfl hs (tx Qg) hk iJ (cu (hi pins s σ H _ I h) fun v s1 h1=>cu h1 fun SZ s2 h2=>?_)
 obtain ⟨it,fp,tn,J,H2,e,I2,T,Ta,f2,hW⟩:=h2
 subst e
 have Qh:H2 s2.heap.objs.size=none:=I2.bh.fresh (aah _)
 obtain ⟨W,⟨m0,w0⟩,turn⟩:=hW s2.heap.objs.size Qh
 refine wpAny_newObj_type ?_
 have I3:Inv X pins σ (upd H2 s2.heap.objs.size (.lst [])) { s2 with heap:=s2.heap.push { cls:=.type "list",data:=.seq ([]:List Value).toArray } }:=I2.Ur (its:=[]) (t':=s2.toks) .nil (aa0 _)
 have f3:∀ b∈fp,lg X pins (upd H2 s2.heap.objs.size (.lst [])) b:=fun b hb=>by
  refine⟨?_,(f2 b hb).2⟩
  obtain ⟨o,eo,_⟩:=T.obj _ _ Ta b hb
  rw [ay (aa1 (aae eo))]
  exact (f2 b hb).1
 have Oj:tn 0 (s2.heap.push { cls:=.type "list",data:=.seq ([]:List Value).toArray }):=T.keep _ _ _ Ta fun b _ o e=>aab _ e
 generalize FK:({ s2 with heap:=s2.heap.push { cls:=.type "list",data:=.seq ([]:List Value).toArray } }:Shared)=s3 at I3
 have Oj:tn 0 s3.heap:=by rw [<- FK];exact Oj
 generalize hH3:upd H2 s2.heap.objs.size (.lst [])=H3 at I3 f3 w0
 generalize hacc:s2.heap.objs.size=acc at *
 refine wpAny_newFunctionEnv dJ (by intro y hy;simp at hy) (fun h₁ Yp Yq=>?_) hk
 have old:∀ b o,s3.heap.get? b=some o->h₁.get? b=some o:=fun b o q=>Yq.extBut b o (aa1 (aae q)) (aab _ q)
 have Qi:H3 s3.heap.objs.size=none:=I3.bh.fresh (aah _)
 have fpl:∀ b∈fp,b<s3.heap.objs.size:=fun b hb=>by
  obtain ⟨o,eo,_⟩:=T.obj _ _ Oj b hb
  exact aae eo
 have Qj:∀ b,b≠X.env.locals->b∉X.fs->b∉sx X.stack:=fun b h1 h2 z=>by
  rcases aaC.mp (I3.oA b z) with q|q
  ·exact h1 q
  ·exact h2 q
 have clt:∀ x c,X.env.cells.lookup x=some c->c<s3.heap.objs.size:=fun x c q=>by
  obtain ⟨v,z⟩:=I3.cell x c q
  exact z.lt
 have YI:∀ (h':Heap) (m:Str->Option Value),(∀ b o,s3.heap.get? b=some o->h'.get? b=some o)->h'.Ns s3.heap.objs.size m ->
   Inv (bL X pins N scope s3.heap.objs.size s3 H3 fp) [] (pick ix σ) H3 { s3 with heap:=h',toks:=s3.toks+([]:List (Str×Value)).length }:=by
  intro h' m oJ hn
  refine⟨⟨I3.ok.mod,hk,I3.ok.glob,I3.ok.blt,aah _,fun x y c q1 q2=>I3.ok.inj x y c (iq x c q1) (iq y c q2),fun x hx=>As x (gw dJ hx),fun x c hf _=>absurd hf Bool.false_ne_true,
   I3.ok.hd,I3.ok.frames,.inl rfl,fun b hb=>⟨aa1 (fpl b hb),fun x c q=>(f3 b hb).2.2.2.2.1 x c (iq x c q)⟩,I3.bs,aag I3.ok.Ci I3.sz,fun b o e hb=>?_,fun b hb=>Qj b (f3 b hb).2.1 (f3 b hb).2.2.1,I3.stack,I3.km⟩,
   rfl,I3.bare,Un.kept oJ,⟨m,hn,fun i x v h1 h2 h3=>?_⟩,fun x c q=>?_,Qi,fun x c q=>I3.dI x c (iq x c q),fun p hp=>?_,I3.bh.kept oJ,?_⟩
  ·have q:=(I3.bs b o e).2
   rcases (f3 b hb).2.2.2.1 with z|z
   ·exact I3.ok.wc b o e z
   ·exact absurd (Nat.lt_of_lt_of_le (aae e) (aag I3.ok.Ci z)) (Nat.lt_irrefl _)
  ·obtain ⟨j,e1,e2⟩:=Ap h2
   obtain ⟨a1,a2,a3,a4⟩:=Ar.get h1 e1
   obtain ⟨mX,hnX,Yr⟩:=I3.loc
   obtain ⟨u,ru,l⟩:=Yr j x v a1 e2 a2
   refine⟨u,ru,?_⟩
   rcases l with ⟨l1,_⟩|⟨_,c,lc,z⟩
   ·have Ys:X.env.scope.names.lookup x=some .local:=l1
    rw [Ys] at a3
    exact absurd a3 aa8
   ·obtain ⟨c',LI⟩:=As x a4
    have ec:=iq x c' LI
    rw [lc] at ec
    have Yt:c=c':=aaj ec
    subst Yt
    exact .inr ⟨nj a4,c,LI,z.keeps oJ⟩
  ·obtain ⟨v,z⟩:=I3.cell x c (iq x c q)
   exact⟨v,z.keeps oJ⟩
  ·have hp':p∈X.pn++pins:=by simpa using hp
   obtain ⟨a1,a2,a3,a4,a5⟩:=I3.pin p hp'
   exact⟨oJ _ _ a1,a2,aa1 (aae a1),Qj p.1 a3 a4,a5⟩
  ·show (pick ix σ).length=N.length
   unfold pick
   rw [aaz]
   exact Ar.len
 have Yu:∀ {pl:List (Addr×Obj)} {H':Hp},pl=[]->(∀ b∈fp,H' b=none)->∀ b∈fp,lg (bL X pins N scope s3.heap.objs.size s3 H3 fp) pl H' b:=fun {pl H'} epl hn b hb=>by
  obtain ⟨f0,f1,Yv,Xd,f4,f5⟩:=f3 b hb
  subst epl
  exact⟨hn b hb,aa1 (fpl b hb),Qj b f1 Yv,.inl hb,fun x c q=>f4 x c (iq x c q),fun p hp=>f5 p (by simpa using hp)⟩
 have loop:∀ s4:Shared,(∃ m,s4={ s3 with heap:=h₁,toks:=s3.toks+([]:List (Str×Value)).length }/\h₁.Ns s3.heap.objs.size m) ->
   codeAny (model X.prog X.w) X.A (.compLoop (.ListComp elt [⟨tg,iter,ifs,0⟩] scope pos) 0 (.ref it) (.ref acc) (compEnvC scope (dS X.env.cells scope.names []) s3.heap.objs.size X.env))
    (compPost (model X.prog X.w) X.A X.xe use Q0 (.ref acc) s3.heap.objs.size) s4:=by
  rintro s4 ⟨m4,rfl,Qk⟩
  refine FJ (E:=fun _ _=>False) (fun _ _ z=>z.elim)
   (fun n s'=>∃ i σ' ys H',Inv (bL X pins N scope s3.heap.objs.size s3 H3 fp) [] σ' H' s'/\tn i s'.heap/\(∀ b∈fp,H' b=none)/\W i n σ' ys H') ?_ m0
   ⟨0,pick ix σ,[],H3,YI h₁ m4 old Qk,T.keep _ _ _ Oj fun b _ o q=>old b o q,fun b hb=>(f3 b hb).1,w0⟩
  rintro n s5 ⟨i,σ5,ys,H5,I5,Tb,W7,w5⟩
  obtain ⟨hl5,Uu⟩:=turn i n σ5 ys H5 w5
  rcases Uu with ⟨stop,q⟩|⟨go,m',lC,step⟩
  ·refine cu (T.done (bL X pins N scope s3.heap.objs.size s3 H3 fp) rfl rfl rfl (hc pins _ s3 H3 fp) i [] s5 σ5 H5 (fun _ _=>False) I5 (Yu rfl W7) Tb stop) fun r s6 ⟨hr,I6⟩=>?_
   subst hr
   exact fin s3 s6 H3 H5 fp acc σ5 I3 f3 I6 q
  ·refine cu (T.item (bL X pins N scope s3.heap.objs.size s3 H3 fp) rfl rfl rfl (hc pins _ s3 H3 fp) i [] s5 σ5 H5 (fun _ _=>False) I5 (Yu rfl W7) Tb go) fun r s6 ⟨u,hr,h6⟩=>?_
   subst hr
   refine cu h6 fun _ s7 ⟨x,H7,I7,r7,y7,Yw,fr7⟩=>?_
   have I7':=I7.pinned (Yu rfl fr7) (T.obj _ _ Yw)
   refine cu (hg pins s3.heap.objs.size s3 H3 fp _ s7 σ5 H7 x u _ I7' r7 (step x H7 y7)) fun _ s8 ⟨σ8,H8,I8,q8⟩=>?_
   refine cu (IA (ht pins s3.heap.objs.size s3 H3 fp) I8 q8) fun b s9 ⟨H9,I9,q9⟩=>?_
   have back:∀ {σz:St} {Hz:Hp} {sz:Shared} {yz:List V},Inv (bL X pins N scope s3.heap.objs.size s3 H3 fp) ([]++sZ fp s7.heap) σz Hz sz->W (i+1) m' σz yz Hz ->
     ∃ m,m<n/\∃ i σ' ys H',Inv (bL X pins N scope s3.heap.objs.size s3 H3 fp) [] σ' H' sz/\tn i sz.heap/\(∀ b∈fp,H' b=none)/\W i m σ' ys H':=fun {σz Hz sz yz} Iz wz=>by
    refine⟨m',lC,i+1,σz,yz,Hz,Iz.fB,T.keep _ _ _ Yw fun b hb o e=>(Iz.pin (b,o) (aau _ (aau _ (iH hb e)))).1,fun b hb=>?_,wz⟩
    obtain ⟨o,e,d⟩:=T.obj _ _ Yw b hb
    exact (Iz.pin (b,o) (aau _ (aau _ (iH hb e)))).2.1
   cases b with
   | false=>exact back I9 q9
   | true =>
    refine cu (he pins s3.heap.objs.size s3 H3 fp _ s9 σ8 H9 _ I9 q9) fun v Xe ⟨y,Yx,I10,r10,Yy,Yz,w10⟩=>?_
    refine cu (dN _ Xe σ8 Yx (.ref acc) [y] (.ref acc) [v] (fun _ H'=>H'=upd Yx acc (.lst (ys++[y]))) I10 rfl (.cons r10 .nil) ⟨acc,ys,y,rfl,rfl,Yy,Yz,rfl⟩) fun _ Xf ⟨_,H11,I11,_,e11⟩=>?_
    subst e11
    exact back I11 w10
 have Qk:∃ m,h₁.Ns s3.heap.objs.size m:=⟨_,Yp⟩
 obtain ⟨m4,Qk⟩:=Qk
 have L:=loop _ ⟨m4,rfl,Qk⟩
 exact codeAny_compStart_list L (T.self _ 0 _ _ _ (T.keep _ _ _ Oj fun b _ o q=>old b o q) L)
theorem Au{ok:Cx->Prop}(hc:∀ pins C s H fp,ok (bL X pins N scope C s H fp))(hi:Xc ok X tg iter wi)(hg:∀ pins C s H fp,PG (bL X pins N scope C s H fp) tg g)(ht:∀ pins C s H fp,Td (bL X pins N scope C s H fp) ifs tt)(he:∀ pins C s H fp,PE (bL X pins N scope C s H fp) elt te)(hk:scope.kind=.function)(dJ:∀ y∈scope.names,y.2≠.cell)(iJ:∀ y∈scope.names,y.2=.local->scope.names.lookup y.1=some .local)(jt:(scope.names.all fun y=>!(y.2 == NameKind.free) || (X.env.cells.lookup y.1).isSome)=true)(Ar:jr X scope N ix)(hs:∀ x,foldedSetIterable iter X.env x=pure x:=by intro _;rfl):
  PE X (.ListComp elt [⟨tg,iter,ifs,0⟩] scope pos) (Aq ix wi g tt te):=by
 intro pins s σ H Q I h
 rw [eval_ListComp]
 refine xx hc hi hg ht he hk dJ iJ jt Ar hs I h fun s3 s6 H3 H5 fp acc σ6 I3 f3 I6 q=>?_
 obtain ⟨m6,YA,_⟩:=I6.loc
 refine⟨m6,YA,fun h' sb=>⟨.ref acc,H5,I3.HN (ch:=fp) I6.os (I6.base.letGo (aah _) sb) (I6.bh.letGo I6.free sb) I6.bare fun b hb=>?_,rfl,q⟩⟩
 obtain ⟨f0,f1,Yv,Xd,f4,f5⟩:=f3 b hb
 exact⟨Xd,f1,f4,f5⟩
theorem Mt(hc:X.calm=true)(hi:PI X tg iter wi)(hg:∀ pins C s H fp,PG (bL X pins N scope C s H fp) tg g)(ht:∀ pins C s H fp,Td (bL X pins N scope C s H fp) ifs tt)(he:∀ pins C s H fp,PE (bL X pins N scope C s H fp) elt te)(hk:scope.kind=.function)(dJ:∀ y∈scope.names,y.2≠.cell)(iJ:∀ y∈scope.names,y.2=.local->scope.names.lookup y.1=some .local)(jt:(scope.names.all fun y=>!(y.2 == NameKind.free) || (X.env.cells.lookup y.1).isSome)=true)(Ar:jr X scope N ix)(hs:∀ x,foldedSetIterable iter X.env x=pure x:=by intro _;rfl):
  PE X (.ListComp elt [⟨tg,iter,ifs,0⟩] scope pos) (Aq ix wi g tt te):=Au (fun _ _ _ _ _=>hc) hi.c hg ht he hk dJ iJ jt Ar hs
end
end L2
namespace L2
open PySem
theorem fD{a b:Nat}(h:@Ne Nat a b):@Ne Addr a b:=h
def cw(k:Bool)(h:Heap)(a:Addr)(xs:Array Value):Prop:=match k with|true=>h.IsTuple a xs|false=>h.IsList a xs
def ju(k:Bool)(h:Heap)(it a:Addr)(i:Nat):Prop:=match k with|true=>h.IsTupleIter it a i|false=>h.IsListIter it a i
def dU (k:Bool) (a:Addr):Obj:=match k with|true=>{ cls:=.type "tuple_iterator",data:=.fields #[.ref a,.int 0 0] }|false=>{ cls:=.type "list_iterator",data:=.fields #[.ref a,.int 0 0] }
abbrev IsT (h:Heap) (T:Addr) (vs:Array Value):Prop:=h.get? T=some { cls:=.type "tuple",data:=.seq vs }
theorem cw.keep{k:Bool}(x:cw k h a xs)(hk:∀ o,h.get? a=some o->h'.get? a=some o):cw k h' a xs:=by
 cases k with
 | true=>obtain ⟨o,e,r⟩:=x;exact⟨o,hk o e,r⟩
 | false=>obtain ⟨o,e,r⟩:=x;exact⟨o,hk o e,r⟩
theorem ju.keep{k:Bool}{i:Nat}(x:ju k h it a i)(hk:∀ o,h.get? it=some o->h'.get? it=some o):ju k h' it a i:=by
 cases k with
 | true=>obtain ⟨o,e,r⟩:=x;exact⟨o,hk o e,r⟩
 | false=>obtain ⟨o,e,r⟩:=x;exact⟨o,hk o e,r⟩
theorem ju.obj{k:Bool}{i:Nat}(x:ju k h it a i):∃ o,h.get? it=some o/\∀ v,o.data≠.cell v:=by
 cases k with
 | true=>obtain ⟨o,e,_,d⟩:=x;exact⟨o,e,fun v z=>by rw [d] at z;cases z⟩
 | false=>obtain ⟨o,e,_,d⟩:=x;exact⟨o,e,fun v z=>by rw [d] at z;cases z⟩
theorem cw.lt{k:Bool}(x:cw k h a xs):a<h.objs.size:=by
 cases k with
 | true=>obtain ⟨o,e,_⟩:=x;exact aae e
 | false=>obtain ⟨o,e,_⟩:=x;exact aae e
theorem tG{k:Bool}(e:h.get? it=some (dU k a)):ju k h it a 0:=by
 cases k with
 | true=>exact⟨_,e,rfl,rfl⟩
 | false=>exact⟨_,e,rfl,rfl⟩
section
variable {prog:Program}{w:World}{A:Around}{E:Value->Shared->Prop}{s:Shared}
theorem nr{k:Bool}(h:cw k s.heap a xs)(hQ:Q (.ref s.heap.objs.size) { s with heap:=s.heap.push (dU k a) }):wpAny (model prog w) A (pyIter (.ref a)) Q E s:=by
 cases k with
 | true=>exact wpAny_pyIter_tuple h hQ
 | false=>exact wpAny_pyIter_list h hQ
theorem nu{i:Nat}{items}(Av:s.heap.IsTupleIter it t i)(ht:s.heap.IsTuple t items)(hx:items[i]?=some x)(hQ:∀ h',h'.IsTupleIter it t (i+1)->Heap.SameBut it s.heap h'->Q x { s with heap:=h' }):
  wpAny (model prog w) A (Builtin.SmallTypes.nextOf (.ref it)) Q E s:=by
 obtain ⟨o,ho,hc,hd⟩:=id Av
 obtain ⟨ol,Uv,_,nl,Uw⟩:=ht
 unfold Builtin.SmallTypes.nextOf
 refine aac (wpAny_callSpecial?_slot (name:=Str.ofString "__next__") Av.typeIs F.slot_tuple_iterator_next
  (wpAny_call_entry F.slot_tuple_iterator_next Av.typeIs F.entry_tuple_iterator_next ?_ (F.args_tuple_iterator_next_1 _)))
 show wpAny _ _ (field (.ref it) 0 >>= _) _ _ s
 refine aac (wpAny_field ho hd (x:=.ref t) rfl ?_)
 show wpAny _ _ (if (Value.ref t == Value.none)=true then _ else _) _ _ s
 rw [if_neg (show ¬ ((Value.ref t == Value.none)=true) from Bool.false_ne_true)]
 show wpAny _ _ (field (.ref it) 1 >>= _) _ _ s
 refine aac (wpAny_field ho hd (x:=.int i 0) rfl ?_)
 show wpAny _ _ (seqItems? (.ref t) >>= _) _ _ s
 refine aac (wpAny_seqItems Uv Uw ?_)
 simp only [aa7,hx]
 refine aac (wpAny_setField ho hd (by simp) (aap ⟨x,rfl,aap (hQ _ ?_ (Heap.SameBut.update ..))⟩))
 exact⟨_,Heap.get?_update_self _ ho (Obj.isFreed_of_fields (Obj.data_mapFields hd _)),(Obj.cls_mapFields ..).trans hc,by
  rw [Obj.data_mapFields hd];simp [rawInt]⟩
theorem oK{i:Nat}{items}(hh:A.handled=none)(Av:s.heap.IsTupleIter it t i)(ht:s.heap.IsTuple t items)(hx:items[i]?=none)(hE:∀ h' e,Heap.ExtBut it s.heap h'->(∃ o,h'.get? e=some o/\o.cls=.type "StopIteration")->E (.ref e) { s with heap:=h' }):
  wpAny (model prog w) A (Builtin.SmallTypes.nextOf (.ref it)) Q E s:=by
 obtain ⟨o,ho,hc,hd⟩:=id Av
 obtain ⟨ol,Uv,_,nl,Uw⟩:=ht
 unfold Builtin.SmallTypes.nextOf
 refine aac (wpAny_callSpecial?_slot (name:=Str.ofString "__next__") Av.typeIs F.slot_tuple_iterator_next
  (wpAny_call_entry F.slot_tuple_iterator_next Av.typeIs F.entry_tuple_iterator_next ?_ (F.args_tuple_iterator_next_1 _)))
 show wpAny _ _ (field (.ref it) 0 >>= _) _ _ s
 refine aac (wpAny_field ho hd (x:=.ref t) rfl ?_)
 show wpAny _ _ (if (Value.ref t == Value.none)=true then _ else _) _ _ s
 rw [if_neg (show ¬ ((Value.ref t == Value.none)=true) from Bool.false_ne_true)]
 show wpAny _ _ (field (.ref it) 1 >>= _) _ _ s
 refine aac (wpAny_field ho hd (x:=.int i 0) rfl ?_)
 show wpAny _ _ (seqItems? (.ref t) >>= _) _ _ s
 refine aac (wpAny_seqItems Uv Uw ?_)
 simp only [aa7,hx]
 refine aac (wpAny_rule (aac (wpAny_setField ho hd (by simp) ?_)))
 show wpAny _ _ (newExc (.type "StopIteration") [] >>= _) _ _ _
 refine aac ?_
 simp only [newExc,newTuple]
 refine aac (wpAny_newObj_type ?_ (by size_fits))
 refine aac (m:=firstArgMember _ _) (wpAny_of_eq (a:=Value.none) (by first|rfl|(simp only [firstArgMember];rfl)) ?_)
 refine wpAny_newObj_type ?_ (by size_fits)
 simp only [raiseNew]
 refine aac (wpAny_handled ?_)
 first|rw [show A.in1.handled=none from hh]|rw [hh]
 refine aac (aap (wpAny_throw ?_))
 exact hE _ _ (((Heap.SameBut.update ..).extBut.push _).push _) ⟨_,aaf _ rfl,rfl⟩
theorem nv{k:Bool}{i:Nat}(Av:ju k s.heap it a i)(hs:cw k s.heap a xs)(hx:xs[i]?=some x)(hQ:∀ h',ju k h' it a (i+1)->Heap.SameBut it s.heap h'->Q x { s with heap:=h' }):wpAny (model prog w) A (Builtin.SmallTypes.nextOf (.ref it)) Q E s:=by
 cases k with
 | true=>exact nu Av hs hx hQ
 | false=>exact wpAny_nextOf_list_item Av hs hx hQ
theorem yp{k:Bool}{i:Nat}(hh:A.handled=none)(Av:ju k s.heap it a i)(hs:cw k s.heap a xs)(hx:xs[i]?=none)(hE:∀ h' e,Heap.ExtBut it s.heap h'->(∃ o,h'.get? e=some o/\o.cls=.type "StopIteration")->E (.ref e) { s with heap:=h' }):wpAny (model prog w) A (Builtin.SmallTypes.nextOf (.ref it)) Q E s:=by
 cases k with
 | true=>exact oK hh Av hs hx hE
 | false=>exact wpAny_nextOf_list_end hh Av hs hx hE
theorem yq{k:Nat}(hT:IsT s.heap T vs)(hz:vs.size<=8)(h:∀ h',IsT h' T (vs.setIfInBounds k x)->Heap.SameBut T s.heap h'->Q () { s with heap:=h' }):wpAny (model prog w) A (updateSeq T (·.setIfInBounds k x)) Q E s:=by
 have Ux:vs.size<=sizeLine:=aag hz aa8
 refine wpAny_updateSeq (hz:=Ux) (_hz':=by simp only [Array.size_setIfInBounds];lia) hT rfl (h _ ?_ (Heap.SameBut.update ..))
 show (s.heap.update T _).get? T=_
 rw [Heap.get?_update_self _ hT rfl]
 simp [Obj.mapSeq]
structure Aw(k1 k2:Bool)(n a b:Nat)(i:Nat)(f0:Value)(h:Heap):Prop where
 z:IsZip h (n+4) (n+2) (n+3) f0
 ti:IsT h (n+2) #[.ref n,.ref (n+1)]
 to:∃ u v,IsT h (n+3) #[u,v]
 i1:ju k1 h n a i
 i2:ju k2 h (n+1) b i
def Off(l:List Addr)(h h':Heap):Prop:=∀ c o,c∉l->h.get? c=some o->h'.get? c=some o
theorem Off.of(s:Heap.SameBut c h h')(hc:c∈l):Off l h h':=fun b o hb e=>(s.2 b fun z=>hb (z ▸ hc)).trans e
theorem Off.trans(a:Off l h h1)(b:Off l h1 h2):Off l h h2:=fun c o hc e=>b c o hc (a c o hc e)
theorem Off.push(o:Obj):Off l h (h.push o):=fun _ _ _ e=>aab _ e
theorem FL{k1 k2:Bool}{n a b:Nat}{i:Nat}{xs ys:Array Value}{x y:Value}{Q:Value->Shared->Prop}(Z:Aw k1 k2 n a b i .none s.heap)(ha:a<n)(hb:b<n)
  (h1:cw k1 s.heap a xs) (h2:cw k2 s.heap b ys) (hx:xs[i]?=some x) (hy:ys[i]?=some y)
  (hQ:∀ h',Aw k1 k2 n a b (i+1) (rawInt s.heap.objs.size) h'->IsT h' s.heap.objs.size #[x,y]->h'.objs.size=s.heap.objs.size+1->Off [n,n+1,n+3,n+4] s.heap h'->Q (.ref s.heap.objs.size) { s with heap:=h' }) :
  wpAny (model prog w) A (Builtin.«zip.__next__» ⟨[.ref (n+4)],[]⟩) (fun fin s'=>∃ v,fin=.done (.ret v)/\Q v s') E s:=by
 obtain ⟨hz,Ot,⟨u,v,Ql⟩,Ou,yr⟩:=Z
 show wpAny _ _ (field (.ref (n+4)) 2 >>= _) _ _ _
 refine aac (wpAny_field hz rfl (x:=.bool false) rfl ?_)
 show wpAny _ _ (field (.ref (n+4)) 3 >>= _) _ _ _
 refine aac (wpAny_field hz rfl (x:=.ref (n+2)) rfl ?_)
 refine aac (wpAny_seqItems Ot rfl ?_)
 show wpAny _ _ (Builtin.SmallTypes.ownedTupleIsFree (.ref (n+4)) >>= _) _ _ _
 refine aac ?_
 unfold Builtin.SmallTypes.ownedTupleIsFree
 refine aac (wpAny_field hz rfl (x:=.none) rfl (aap ?_))
 simp only [if_true]
 refine aac (wpAny_rule ?_)
 refine aac (wpAny_field hz rfl (x:=.ref (n+3)) rfl ?_)
 refine aac (wpAny_setField_rec hz (by simp) fun g1 HH xy=>?_)
 replace HH:IsZip g1 (n+4) (n+2) (n+3) .ellipsis:=HH
 refine aac ?_
 simp only [List.zipIdx_cons,List.zipIdx_nil,forIn_cons,forIn_nil]
 refine aac (aac (wpAny_onRaise ?_))
 show wpAny _ _ (Builtin.SmallTypes.nextOf (.ref n) >>= _) _ _ _
 refine aac (nv (Ou.keep fun o e=>(xy.2 _ (fD aaa)).trans e) (h1.keep fun o e=>(xy.2 _ (fD aaa)).trans e) hx fun g2 Uy iC=>aap ?_)
 have IB:IsT g2 (n+3) #[u,v]:=(iC.2 _ (fD aaa)).trans ((xy.2 _ (fD aaa)).trans Ql)
 refine aac (wpAny_seqItems IB rfl ?_)
 refine aac (yq IB (by simp) fun g3 Mu FK=>?_)
 replace Mu:IsT g3 (n+3) #[x,v]:=Mu
 refine aac (wpAny_letGo (aap ?_))
 refine aac (aac (wpAny_onRaise ?_))
 show wpAny _ _ (Builtin.SmallTypes.nextOf (.ref (n+1)) >>= _) _ _ _
 refine aac (nv (yr.keep fun o e=>(FK.2 _ (fD aaa)).trans ((iC.2 _ (fD aaa)).trans ((xy.2 _ (fD aaa)).trans e))) (h2.keep fun o e=>(FK.2 _ (fD aaa)).trans ((iC.2 _ (fD aaa)).trans ((xy.2 _ (fD aaa)).trans e))) hy fun g4 YB Ov=>aap ?_)
 have Uz:IsT g4 (n+3) #[x,v]:=(Ov.2 _ (fD aaa)).trans Mu
 refine aac (wpAny_seqItems Uz rfl ?_)
 refine aac (yq Uz (by simp) fun g5 Mv UA=>?_)
 replace Mv:IsT g5 (n+3) #[x,y]:=Mv
 refine aac (wpAny_letGo (aap (aap ?_)))
 refine aac (wpAny_seqItems Mv rfl ?_)
 refine aac (wpAny_newTuple ?_)
 have lI:g5.objs.size=s.heap.objs.size:=by rw [UA.1,Ov.1,FK.1,iC.1,xy.1]
 have hz5:IsZip g5 (n+4) (n+2) (n+3) .ellipsis:=(UA.2 _ (fD aaa)).trans ((Ov.2 _ (fD aaa)).trans ((FK.2 _ (fD aaa)).trans ((iC.2 _ (fD aaa)).trans HH)))
 have UB:Off [n,n+1,n+3,n+4] s.heap g5:=((((Off.of xy (by simp)).trans (Off.of iC (by simp))).trans (Off.of FK (by simp))).trans (Off.of Ov (by simp))).trans (Off.of UA (by simp))
 have UC:n+4<g5.objs.size:=aae hz5
 show wpAny _ _ (Builtin.SmallTypes.ownedTupleHandOut (.ref (n+4)) (.ref g5.objs.size) >>= _) _ _ _
 refine aac ?_
 unfold Builtin.SmallTypes.ownedTupleHandOut
 have hz6:IsZip (g5.push { cls:=.type "tuple",data:=.seq #[x,y] }) (n+4) (n+2) (n+3) .ellipsis:=aab _ hz5
 refine aac (wpAny_setField_rec hz6 (by simp) fun g7 YC YD=>?_)
 replace YC:IsZip g7 (n+4) (n+2) (n+3) (rawInt g5.objs.size):=YC
 refine wpAny_setField_rec YC (by simp) fun g8 Xg YE=>?_
 replace Xg:IsZip g8 (n+4) (n+2) (n+3) (rawInt g5.objs.size):=Xg
 have up:∀ c o,c≠n+4->g5.get? c=some o->g8.get? c=some o:=fun c o c1 e=>(YE.2 _ c1).trans ((YD.2 _ c1).trans (aab _ e))
 have hT8:IsT g8 g5.objs.size #[x,y]:=(YE.2 _ (Nat.ne_of_gt UC)).trans ((YD.2 _ (Nat.ne_of_gt UC)).trans (aaf _ rfl))
 have UD:g8.objs.size=g5.objs.size+1:=by rw [YE.1,YD.1,Heap.size_push]
 rw [lI] at Xg hT8 UD
 refine aap ⟨_,rfl,?_⟩
 show Q (.ref g5.objs.size) _
 rw [lI]
 refine hQ g8 ⟨Xg,up _ _ (fD aaa) (UB _ _ (by simp) Ot),⟨x,y,up _ _ (fD aaa) Mv⟩,?_,?_⟩ hT8 UD fun c o hc e=>?_
 ·exact Uy.keep fun o e=>up _ o (fD aaa) ((UA.2 _ (fD aaa)).trans ((Ov.2 _ (fD aaa)).trans ((FK.2 _ (fD aaa)).trans e)))
 ·exact YB.keep fun o e=>up _ o (fD aaa) ((UA.2 _ (fD aaa)).trans e)
 ·exact up c o (fun z=>hc (by simp [z])) (UB c o hc e)
theorem FN{k1 k2:Bool}{n a b:Nat}{i:Nat}(hh:A.handled=none)(Z:Aw k1 k2 n a b i .none s.heap)(ha:a<n)(hb:b<n)(h1:cw k1 s.heap a xs)(h2:cw k2 s.heap b ys)(FO:xs[i]?=none\/ys[i]?=none)(hE:∀ h' e,Off [n,n+1,n+3,n+4] s.heap h'->(∃ o,h'.get? e=some o/\o.cls=.type "StopIteration")->E (.ref e) { s with heap:=h' }):
  wpAny (model prog w) A (Builtin.«zip.__next__» ⟨[.ref (n+4)],[]⟩) Q E s:=by
 obtain ⟨hz,Ot,⟨u,v,Ql⟩,Ou,yr⟩:=Z
 show wpAny _ _ (field (.ref (n+4)) 2 >>= _) _ _ _
 refine aac (wpAny_field hz rfl (x:=.bool false) rfl ?_)
 show wpAny _ _ (field (.ref (n+4)) 3 >>= _) _ _ _
 refine aac (wpAny_field hz rfl (x:=.ref (n+2)) rfl ?_)
 refine aac (wpAny_seqItems Ot rfl ?_)
 show wpAny _ _ (Builtin.SmallTypes.ownedTupleIsFree (.ref (n+4)) >>= _) _ _ _
 refine aac ?_
 unfold Builtin.SmallTypes.ownedTupleIsFree
 refine aac (wpAny_field hz rfl (x:=.none) rfl (aap ?_))
 simp only [if_true]
 refine aac (wpAny_rule ?_)
 refine aac (wpAny_field hz rfl (x:=.ref (n+3)) rfl ?_)
 refine aac (wpAny_setField_rec hz (by simp) fun g1 HH xy=>?_)
 replace HH:IsZip g1 (n+4) (n+2) (n+3) .ellipsis:=HH
 refine aac ?_
 simp only [List.zipIdx_cons,List.zipIdx_nil,forIn_cons,forIn_nil]
 refine aac (aac (wpAny_onRaise ?_))
 show wpAny _ _ (Builtin.SmallTypes.nextOf (.ref n) >>= _) _ _ _
 have fin:∀ {g h':Heap} {e:Addr},IsZip g (n+4) (n+2) (n+3) .ellipsis->(∃ o,g.get? e=some o/\o.cls=.type "StopIteration")->Off [n,n+1,n+3,n+4] s.heap g->∀ s':Shared,s'={ s with heap:=g } ->
   wpAny (model prog w) A (setField (.ref (n+4)) 0 .none) (fun _ s'=>E (.ref e) s') E s':=by
  intro g h' e hzg ⟨oe,YF,hce⟩ off s' es
  subst es
  have hez:e≠n+4:=fun z=>by subst z;rw [hzg] at YF;cases YF;simp at hce
  exact wpAny_setField_rec hzg (by simp) fun g9 _ hs9=>hE g9 e (off.trans (Off.of hs9 (by simp))) ⟨oe,(hs9.2 _ hez).trans YF,hce⟩
 cases hx:xs[i]? with
 | none =>
  refine aac (yp hh (Ou.keep fun o e=>(xy.2 _ (fD aaa)).trans e) (h1.keep fun o e=>(xy.2 _ (fD aaa)).trans e) hx fun g2 e iC he=>?_)
  exact fin (h':=g2) (iC _ _ (fD aaa) HH) he ((Off.of xy (by simp)).trans fun c o hc q=>iC c o (fun z=>hc (by simp [z])) q) _ rfl
 | some x =>
  have hy:ys[i]?=none:=by rcases FO with h|h;rw [hx] at h;cases h;exact h
  refine aac (nv (Ou.keep fun o e=>(xy.2 _ (fD aaa)).trans e) (h1.keep fun o e=>(xy.2 _ (fD aaa)).trans e) hx fun g2 Uy iC=>aap ?_)
  have IB:IsT g2 (n+3) #[u,v]:=(iC.2 _ (fD aaa)).trans ((xy.2 _ (fD aaa)).trans Ql)
  refine aac (wpAny_seqItems IB rfl ?_)
  refine aac (yq IB (by simp) fun g3 Mu FK=>?_)
  refine aac (wpAny_letGo (aap ?_))
  refine aac (aac (wpAny_onRaise ?_))
  show wpAny _ _ (Builtin.SmallTypes.nextOf (.ref (n+1)) >>= _) _ _ _
  refine aac (yp hh (yr.keep fun o e=>(FK.2 _ (fD aaa)).trans ((iC.2 _ (fD aaa)).trans ((xy.2 _ (fD aaa)).trans e))) (h2.keep fun o e=>(FK.2 _ (fD aaa)).trans ((iC.2 _ (fD aaa)).trans ((xy.2 _ (fD aaa)).trans e))) hy fun g4 e Ov he=>?_)
  exact fin (h':=g4) (Ov _ _ (fD aaa) ((FK.2 _ (fD aaa)).trans ((iC.2 _ (fD aaa)).trans HH))) he ((((Off.of xy (by simp)).trans (Off.of iC (by simp))).trans (Off.of FK (by simp))).trans fun c o hc q=>Ov c o (fun z=>hc (by simp [z])) q) _ rfl
theorem Ax{k1 k2:Bool}{n a b:Nat}{i:Nat}(Z:Aw k1 k2 n a b i .none s.heap)(ha:a<n)(hb:b<n)(h1:cw k1 s.heap a xs)(h2:cw k2 s.heap b ys)(hx:xs[i]?=some x)(hy:ys[i]?=some y)(hQ:∀ h',Aw k1 k2 n a b (i+1) (rawInt s.heap.objs.size) h'->IsT h' s.heap.objs.size #[x,y]->h'.objs.size=s.heap.objs.size+1->Off [n,n+1,n+3,n+4] s.heap h'->Q (some (.ref s.heap.objs.size)) { s with heap:=h' }):
  wpAny (model prog w) A (pyNext (.ref (n+4))) Q E s:=by
 have hT:s.TypeIs (.ref (n+4)) "zip":=⟨_,Z.z,rfl⟩
 unfold pyNext
 exact aac (wpAny_attempt (wpAny_callSpecial?_slot (name:=Str.ofString "__next__") hT F.slot_zip_next
  (wpAny_call_entry F.slot_zip_next hT F.entry_zip_next
   (FL Z ha hb h1 h2 hx hy fun h' a1 a2 a3 a4=>aap (hQ h' a1 a2 a3 a4)) (F.args_zip_next_1 _))))
theorem rJ{k1 k2:Bool}{n a b:Nat}{i:Nat}(hh:A.handled=none)(Z:Aw k1 k2 n a b i .none s.heap)(ha:a<n)(hb:b<n)(h1:cw k1 s.heap a xs)(h2:cw k2 s.heap b ys)(FO:xs[i]?=none\/ys[i]?=none)(hQ:∀ h',Off [n,n+1,n+3,n+4] s.heap h'->Q none { s with heap:=h' }):wpAny (model prog w) A (pyNext (.ref (n+4))) Q E s:=by
 have hT:s.TypeIs (.ref (n+4)) "zip":=⟨_,Z.z,rfl⟩
 unfold pyNext
 refine aac (wpAny_attempt (wpAny_callSpecial?_slot (name:=Str.ofString "__next__") hT F.slot_zip_next
  (wpAny_call_entry F.slot_zip_next hT F.entry_zip_next (FN (A:=A.in1) hh Z ha hb h1 h2 FO fun h' e hk he=>?_) (F.args_zip_next_1 _))))
 obtain ⟨o,ho,hc⟩:=he
 refine aac (wpAny_isInstance (T:="StopIteration") (b:=true) ⟨o,ho,hc⟩ isSubtype_stop ?_)
 exact aap (hQ _ hk)
end
abbrev Ow (k1 k2:Bool) (h:Heap) (a b:Addr):Heap:=((((h.push (dU k1 a)).push (dU k2 b)).push { cls:=.type "tuple",data:=.seq #[.ref h.objs.size,.ref (h.objs.size+1)] }).push { cls:=.type "tuple",data:=.seq #[.none,.none] }).push
 { cls:=.type "zip",data:=.fields #[.none,.bool false,.bool false,.ref (h.objs.size+2),.ref (h.objs.size+3)] }
theorem FP(k1 k2:Bool)(a b:Addr)(xs ys:Array Value):
  Meets (Builtin.«zip.__new__» ⟨[.type "zip",.ref a,.ref b],[]⟩) (fun _ R s=>cw k1 s.heap a xs/\cw k2 s.heap b ys /\
   R (.ok (.ret (.ref (s.heap.objs.size+4)))) { s with heap:=Ow k1 k2 s.heap a b }) :=
 .of_wp fun prog w A R s h=>by
  obtain ⟨hp,g,d,tk,os⟩:=s;obtain ⟨HI,Iv,h⟩:=h
  have Mw:=sub_zip
  have hL1:cw k1 (Shared.heap ⟨hp,g,d,tk,os⟩) a xs:=HI
  have hL2:cw k2 (Shared.heap ⟨hp.push (dU k1 a),g,d,tk,os⟩) b ys:=cw.keep Iv fun o e=>aab _ e
  wp_walk using nr hL1,nr hL2
  refine⟨_,rfl,?_⟩
  simp only [Heap.size_push]
  exact h
open PySem PySem.Spec PyProof.Rows
def Sq(k:Bool)(K:Frag)(H:Hp)(a:Addr)(xs:List V):Prop:=match k with|true=>aC K H a xs|false=>aP K H a xs
section
variable {X:Cx}{pins:List (Addr×Obj)}{σ:St}{H H':Hp}{s:Shared}
theorem Inv.sq{k:Bool}(I:Inv X pins σ H s)(h:Sq k X.K H a xs):∃ its:List Value,Vals xs its/\cw k s.heap a its.toArray/\xs.length<=sizeLine:=by
 cases k with
 | true=>exact I.tuple h
 | false =>
  obtain ⟨its,r,p,z⟩:=I.list h
  exact⟨its,r,p.isList,z⟩
theorem Inv.CK{k:Bool}(I:Inv X pins σ H s)(h:Sq k X.K H a xs)(h':Sq k X.K H a ys):xs=ys:=by
 cases k with
 | true=>exact I.xk h h'
 | false=>exact I.sW h h'
theorem Inv.off{t':Nat}(I:Inv X pins σ H s)(hf:∀ b∈ch,lg X pins H b)(off:Off ch s.heap h')(bh:gO X.prog X.w H' h')(free:∀ b o,b∉ch->s.heap.get? b=some o->H b=none->H' b=none)(same:∀ b o,H b=some o->H' b=some o):Inv X pins σ H' { s with heap:=h',toks:=t' }:=by
 refine I.step (g':=s.gens) (d':=s.drawn) (ch:=ch) (fun b hb=>?_) (fun b o _ _ hc e _=>off b o hc e) (fun b o _ _ hc e _=>⟨o.slots,off b o hc e⟩) (fun b o hc e n=>free b o hc e n) (fun b o hc e=>⟨o,off b o hc e⟩)
  (fun b xs e=>same b _ e) (fun b o u e=>same b _ e) (fun b ps e=>⟨#[],by rw [same b _ e];simp⟩) (fun m hm=>?_) bh I.bare
 ·obtain ⟨f0,f1,f2,f3,f4,f5⟩:=hf b hb
  exact⟨f3,f1,f4,f5⟩
 ·obtain ⟨o,es,ep,ho,r⟩:=hm
  exact⟨o,es,ep,off _ o (fun z=>(hf _ z).2.1 rfl) ho,r⟩
theorem gO.off(x:gO P w H h)(hn:∀ b∈ch,H b=none)(off:Off ch h h'):gO P w H h':=fun a o e=>by
 have na:∀ b u,H b=some u->b∉ch:=fun b u q z=>by rw [hn b z] at q;cases q
 refine (x a o e).rB (fun b u hb q=>off b u ?_ q) (fun _ q=>q) fun _ _ q=>q
 rcases hb with rfl|hb
 ·exact na _ _ e
 ·exact na _ _ hb
theorem gO.IC(x:gO P w H h)(hn:∀ b∈ch,H b=none)(off:Off ch h h')(hT:h.objs.size<=T)(new:cv P w (upd H T ob) h' T ob):gO P w (upd H T ob) h':=fun a o e=>by
 have Ay:=x.fresh hT
 have na:∀ b u,H b=some u->b∉ch:=fun b u q z=>by rw [hn b z] at q;cases q
 by_cases ha:a=T
 ·subst ha;rw [aw] at e;cases e;exact new
 ·rw [ay ha] at e
  refine (x a o e).rB (fun b u hb q=>off b u ?_ q) (fun c q=>by rw [ay (aJ q Ay)];exact q) fun c xs q=>by rw [ay (aJ q Ay)];exact q
  rcases hb with rfl|hb
  ·exact na _ _ e
  ·exact na _ _ hb
end
theorem EB{n:Nat}(z:c∈([n,n+1,n+3,n+4]:List Addr)):c∈([n+4,n+2,n+3,n,n+1]:List Addr):=by
 simp only [aaC,not_mem_nil,or_false] at z ⊢
 rcases z with h|h|h|h <;> simp [h]
def Mx(K : Frag)(k1 k2 : Bool)(a b : Addr) : It :=
  ⟨fun i H => ∃ xs ys x y, Sq k1 K H a xs /\ Sq k2 K H b ys /\ xs[i]?=some x /\ ys[i]?=some y,
   fun i H v H' => ∃ p x y, v=.ref p /\ H p=none /\ (∀ xs, Sq k1 K H a xs -> xs[i]?=some x) /\ (∀ ys, Sq k2 K H b ys -> ys[i]?=some y) /\ H'=upd H p (.tup [x, y]),
   fun i H => ∃ xs ys, Sq k1 K H a xs /\ Sq k2 K H b ys /\ (xs.length <= i \/ ys.length <= i)⟩
theorem FQ{P:Program}{w:World}{K:Frag}{es:List Expr}{kk:Nat}{pos:Pos}{k1 k2:Bool}(n a b:Nat)(ha:a<n)(hb:b<n) :
  Turn P w K (.Tuple es kk pos) (Mx K k1 k2 a b) [n+4,n+2,n+3,n,n+1] (n+4) (fun i h=>Aw k1 k2 n a b i .none h) where
 mem:=by simp
 obj:=fun i h st c hc=>by
  obtain ⟨hz,Ot,⟨u,v,Ql⟩,Ou,yr⟩:=st
  simp only [aaC,not_mem_nil,or_false] at hc
  rcases hc with rfl|rfl|rfl|rfl|rfl
  ·exact⟨_,hz,fun v z=>nomatch z⟩
  ·exact⟨_,Ot,fun v z=>nomatch z⟩
  ·exact⟨_,Ql,fun v z=>nomatch z⟩
  ·exact Ou.obj
  ·exact yr.obj
 keep:=fun i h h' st k=>by
  obtain ⟨hz,Ot,⟨u,v,Ql⟩,Ou,yr⟩:=st
  exact⟨k _ (by simp) _ hz,k _ (by simp) _ Ot,⟨u,v,k _ (by simp) _ Ql⟩,Ou.keep fun o e=>k _ (by simp) o e,yr.keep fun o e=>k _ (by simp) o e⟩
 item:=by
  intro X hP hw hK hc i pins s σ H E I hf st hg
  subst hP hw hK
  obtain ⟨xs,ys,x,y,qx,qy,ex,ey⟩:=hg
  obtain ⟨Qm,r1,s1,_⟩:=I.sq qx
  obtain ⟨YG,r2,s2,_⟩:=I.sq qy
  obtain ⟨u,hu,ru⟩:=r1.get ex
  obtain ⟨v,hv,rv⟩:=r2.get ey
  refine Ax st ha hb s1 s2 (x:=u) (y:=v) (by simpa using hu) (by simpa using hv) fun h' Z hT lI off=>⟨_,rfl,?_⟩
  have Ay:H s.heap.objs.size=none:=I.bh.fresh (aah _)
  have YH:n+4<s.heap.objs.size:=aae st.z
  refine wpAny_letOwnedTupleGo_zip Z.z fun h2 Ux iC=>?_
  have tH:Off [n+4,n+2,n+3,n,n+1] s.heap h2:=fun c o hc e=>(iC.2 c fun z=>hc (by simp [z])).trans (off c o (fun z=>hc (EB z)) e)
  have mZ:IsT h2 s.heap.objs.size #[u,v]:=(iC.2 _ (Nat.ne_of_gt YH)).trans hT
  refine⟨.ref s.heap.objs.size,upd H s.heap.objs.size (.tup [x,y]),?_,rfl,⟨_,x,y,rfl,Ay,fun zs UE=>by rw [I.CK UE qx];exact ex,fun zs UE=>by rw [I.CK UE qy];exact ey,rfl⟩,?_,fun c hc=>?_⟩
  ·refine Inv.off (s:=s) (h':=h2) (t':=s.toks) (ch:=[n+4,n+2,n+3,n,n+1]) I hf tH (I.bh.IC (fun c hc=>(hf c hc).1) tH (aah _) ?_) (fun c o _ e hn=>?_) fun c o e=>?_
   ·exact⟨by show 2<=sizeLine;decide,[u,v],.cons ru (.cons rv .nil),⟨_,mZ,rfl,_,rfl⟩⟩
   ·rw [ay (aa1 (aae e))];exact hn
   ·rw [ay (aJ e Ay)];exact e
  ·obtain ⟨z1,z2,⟨a1,a2,z3⟩,z4,z5⟩:=Z
   exact⟨Ux,(iC.2 _ (fD aaa)).trans z2,⟨a1,a2,(iC.2 _ (fD aaa)).trans z3⟩,z4.keep fun o e=>(iC.2 _ (fD aaa)).trans e,z5.keep fun o e=>(iC.2 _ (fD aaa)).trans e⟩
  ·have cn:c≠s.heap.objs.size:=by
    simp only [aaC,not_mem_nil,or_false] at hc
    rcases hc with rfl|rfl|rfl|rfl|rfl <;> exact fD aaa
   rw [ay cn];exact (hf c hc).1
 done:=by
  intro X hP hw hK hc i pins s σ H E I hf st hg
  subst hP hw hK
  obtain ⟨xs,ys,qx,qy,FO⟩:=hg
  obtain ⟨Qm,r1,s1,_⟩:=I.sq qx
  obtain ⟨YG,r2,s2,_⟩:=I.sq qy
  have e1:=r1.length
  have e2:=r2.length
  refine rJ (I.ok.hd hc) st ha hb s1 s2 ?_ fun h' off=>⟨rfl,?_⟩
  ·rcases FO with z|z
   ·exact .inl (by simp;lia)
   ·exact .inr (by simp;lia)
  ·have tH:Off [n+4,n+2,n+3,n,n+1] s.heap h':=fun c o hc e=>off c o (fun z=>hc (EB z)) e
   exact Inv.off (s:=s) (t':=s.toks) I hf tH (I.bh.off (fun c hc=>(hf c hc).1) tH) (fun _ _ _ _ q=>q) fun _ _ q=>q
 self:=fun _ _ _ _ _ st h=>wpAny_pyIter_zip st.z h
section
variable {X:Cx}
def IE(K:Frag)(k1 k2:Bool)(ta:TA):TI:=fun σ H R=>ta σ H fun vs H1=>∃ a b,vs=[.ref a,.ref b]/\(∃ xs,Sq k1 K H1 a xs)/\(∃ ys,Sq k2 K H1 b ys)/\R (Mx K k1 k2 a b) H1
theorem My (k1 k2:Bool) {es:List Expr} {kk:Nat} {Ai:Pos} {a b:Expr} {ta:TA} {p pos:Pos} (hg:Gl X "zip") (hm:X.mg "zip"=none) (ha:PA X [a,b] ta) (hs:starEach [a,b] X.env=[(false,eval a X.env),(false,eval b X.env)]:=by rfl) (iC:starEach [b] X.env=[(false,eval b X.env)]:=by rfl) :
  PI X (.Tuple es kk Ai) (.Call (.Name "zip" p) [a,b] [] pos) (IE X.K k1 k2 ta):=by
 intro pins s σ H R I h
 refine Call_ (jy I hg hm boot_zip (callWith_type1 (cu (ha pos pins s σ H _ I h) fun us s1 ⟨vs,H1,I1,r1,q1⟩=>?_) (by rw [hs,iC]) (by rw [iC];rfl)))
 obtain ⟨a',b',e,⟨xs,qx⟩,⟨ys,qy⟩,q⟩:=q1
 subst e
 obtain ⟨u,v,rfl,ru,rv⟩:=vals2 r1
 cases ru
 cases rv
 obtain ⟨Qm,r1,UG,_⟩:=I1.sq qx
 obtain ⟨YG,r2,s2',_⟩:=I1.sq qy
 refine callType_new PySem.F.called_zip aa8 (PySem.F.typeCall_zip_2 _ _) (PySem.F.newCall_zip_2 _ _) (fun obj=>PySem.F.args_object_init_3 obj _ _) PySem.F.entry_zip_new (FP k1 k2 a' b' Qm.toArray YG.toArray) ⟨UG,s2',?_⟩
 have z1:(s1.heap.push (dU k1 a')).objs.size=s1.heap.objs.size+1:=Heap.size_push ..
 have z2:((s1.heap.push (dU k1 a')).push (dU k2 b')).objs.size=s1.heap.objs.size+2:=by rw [Heap.size_push,z1]
 have z3:(((s1.heap.push (dU k1 a')).push (dU k2 b')).push { cls:=.type "tuple",data:=.seq #[.ref s1.heap.objs.size,.ref (s1.heap.objs.size+1)] }).objs.size=s1.heap.objs.size+3:=by rw [Heap.size_push,z2]
 have z4:((((s1.heap.push (dU k1 a')).push (dU k2 b')).push { cls:=.type "tuple",data:=.seq #[.ref s1.heap.objs.size,.ref (s1.heap.objs.size+1)] }).push { cls:=.type "tuple",data:=.seq #[.none,.none] }).objs.size=s1.heap.objs.size+4:=by rw [Heap.size_push,z3]
 have g5:(Ow k1 k2 s1.heap a' b').get? (s1.heap.objs.size+4)=some { cls:=.type "zip",data:=.fields #[.none,.bool false,.bool false,.ref (s1.heap.objs.size+2),.ref (s1.heap.objs.size+3)] }:=by rw [<- z4];exact aaf _ rfl
 have g4:(Ow k1 k2 s1.heap a' b').get? (s1.heap.objs.size+3)=some { cls:=.type "tuple",data:=.seq #[.none,.none] }:=by rw [<- z3];exact aab _ (aaf _ rfl)
 have g3:(Ow k1 k2 s1.heap a' b').get? (s1.heap.objs.size+2)=some { cls:=.type "tuple",data:=.seq #[.ref s1.heap.objs.size,.ref (s1.heap.objs.size+1)] }:=by rw [<- z2];exact aab _ (aab _ (aaf _ rfl))
 have g2:(Ow k1 k2 s1.heap a' b').get? (s1.heap.objs.size+1)=some (dU k2 b'):=by rw [<- z1];exact aab _ (aab _ (aab _ (aaf _ (by cases k2 <;> rfl))))
 have g1:(Ow k1 k2 s1.heap a' b').get? s1.heap.objs.size=some (dU k1 a'):=aab _ (aab _ (aab _ (aab _ (aaf _ (by cases k1 <;> rfl)))))
 have old:∀ c o,s1.heap.get? c=some o->(Ow k1 k2 s1.heap a' b').get? c=some o:=fun c o x=>aab _ (aab _ (aab _ (aab _ (aab _ x))))
 have Z:Aw k1 k2 s1.heap.objs.size a' b' 0 .none (Ow k1 k2 s1.heap a' b'):=⟨g5,g3,⟨_,_,g4⟩,tG g1,tG g2⟩
 show _/\_
 refine⟨⟨_,g5,rfl⟩,wpAny_pyIter_zip Z.z ?_⟩
 refine⟨_,_,_,_,H1,rfl,I1.kept (t':=s1.toks) old,FQ s1.heap.objs.size a' b' UG.lt s2'.lt,Z,fun c hc=>?_,q⟩
 have Ox:s1.heap.objs.size<=c:=by
  simp only [aaC,not_mem_nil,or_false] at hc
  rcases hc with rfl|rfl|rfl|rfl|rfl <;> first|exact le_add_right _ _|exact aah _
 exact I1.we Ox (I1.bh.fresh Ox)
end
def eT(i:Int):Nat:=Builtin.Int.intBits i
def c7(i j:Int):Prop:=eT i+eT j<=1000000
theorem c7.ok{i j:Int}(h:c7 i j):IntMulOk i j:=by
 unfold IntMulOk
 intro z
 simp only [Bool.and_eq_true,decide_eq_true_eq] at z
 have z2:=z.2
 unfold Builtin.Int.intTooBig at z2
 have h':Builtin.Int.intBits i+Builtin.Int.intBits j<=1000000:=h
 have b:(1000000:Int)<=bitsLine:=by decide
 simp only [decide_eq_true_eq] at z2
 lia
section
variable {X:Cx}
theorem yt:gq X (binaryOp .Mult) (rI c7 fun i j=>.int (i*j)):=PB fun _ _ _ _ _ _ _ hc q=>mul_int q hc.ok
def TyR (K:Frag) (H:Hp) (x:V) (t:Value):Prop:=oI K H x t\/(∃ a xs,x=.ref a/\aC K H a xs/\t=.type "tuple")\/(∃ a xs,x=.ref a/\aP K H a xs/\t=.type "list")
theorem Az:bM X (.builtin "isinstance") (fun xs H Q=>∃ x n t b,xs=[x,.ty n]/\TyR X.K H x t/\PySem.W.kitOne X.K t (.type n)=some b/\Q (.bl b) H):=by
 intro pins s σ H xs us Q I r h
 obtain ⟨x,n,t,b,rfl,ty,e,q⟩:=h
 obtain ⟨u,c,rfl,ru,rc⟩:=vals2 r
 obtain rfl:c=Value.type n:=rc
 have fin:∀ tk,EP X pins σ Q (.bool b) { s with toks:=tk }:=fun tk=>⟨.bl b,H,I.tok tk,rfl,q⟩
 rcases ty with ty|⟨a,ys,rfl,hs,rfl⟩|⟨a,ys,rfl,hs,rfl⟩
 ·exact FD I ru ty e fin
 ·obtain rfl:u=Value.ref a:=ru
  obtain ⟨its,_,p,_⟩:=I.tuple hs
  obtain ⟨o,h1,h2,_⟩:=p
  exact PySem.W.kia_one kitx_tuple I.jq ⟨o,h1,h2⟩ e (fun z=>nomatch z) fin
 ·obtain rfl:u=Value.ref a:=ru
  obtain ⟨its,_,p,_⟩:=I.list hs
  obtain ⟨o,n',h1,h2,_⟩:=p
  exact PySem.W.kia_one kitx_list I.jq ⟨o,h1,h2⟩ e (fun z=>nomatch z) fin
end
theorem ny(K:Frag)(t:Value):PySem.W.kitOne K t t=some true:=by
 unfold PySem.W.kitOne
 rw [if_pos (by simp)]
def Def(K:Frag)(mg:Str->Option Value)(x:Str)(st:Stmt)(ps:List Str):Prop:=∃ f fd,Ms K x x st f fd/\mg x=some (.ref f)/\Binds K fd ps []
def Ok(P:Program)(w:World)(K:Frag)(mg:Str->Option Value)(base:Heap)(k:Nat)(x:Str)(ps:List Str)(sp:Sp):Prop :=
 ∃ f fd,lh P w K mg base CJ k f fd ps sp/\mg x=some (.ref f)/\PySem.W.keepIn K (.ref f)=true/\Binds K fd ps []
section
variable {P:Program}{w:World}{K:Frag}{mg:Str->Option Value}{base:Heap}
theorem Def.ok{x:Str}{st:Stmt}{N ps:List Str}{k:Nat}{sp:Sp}(D:Def K mg x st ps)(S:ao N ps (al st))(len:∀ vs H Q E,sp vs H Q E->vs.length=ps.length)
  (di:∀ (f:Addr) (bf:Value) (A:Around) (outer:List Env) (s:Shared) (H:Hp) (vs:List V) (Q:VK) (E:XK),bK k (A.deeper (envOfC x (al st) s.heap.objs.size f bf))->sp vs H Q E ->
   ∃ t,oB (gP CJ P w K mg base N x (al st) f bf A outer s H E).Cp (bw st) t/\t { nx:=fun _ H'=>Q .cJ H',rt:=Q } (start N vs) H):Ok P w K mg base (k+1) x ps sp:=by
 obtain ⟨f,fd,F,hm,hb⟩:=D
 exact⟨f,fd,F.ok S len fun bf A outer s H vs Q E hr h=>di f bf A outer s H vs Q E hr h,hm,F.kp,hb⟩
end
section
variable {X:Cx}{k:Nat}{x:Str}{ps:List Str}{sp:Sp}{p pos:Pos}{e:Expr}{es:List Expr}{t:TA}
theorem aD(O:Ok X.prog X.w X.K X.mg X.base k x ps sp)(hr:bK k X.A)(ha:PA X (e::es) t)(hg:Gl X x:=by rfl)(wg:(x == ("__debug__":Str))=false:=by decide)(he:starEach (e::es) X.env=(false,eval e X.env)::starEach es X.env:=by rfl)(oy:(backTo pos (starEach es X.env)).any (·.1)=false:=by rfl):
  PE X (.Call (.Name x p) (e::es) [] pos) (Es sp [] E0 t):=by
 obtain ⟨f,fd,F,hm,hk,hb⟩:=O
 exact Mj F hr hg hm hk hb .nil Oo ha wg he oy
end
theorem aj.aZ(h:H a=none):aj H (upd H a o):=fun b u e=>by rw [ay (aJ e h)];exact e
theorem aj.at{K:Frag}{H H':Hp}{a:Addr}{xs:List V}(e:aj H H')(h:aC K H a xs):aC K H' a xs:=by
 rcases h with (h|⟨o,h⟩)|h
 ·exact .inl (.inl (e _ _ h))
 ·exact .inl (.inr ⟨o,e _ _ h⟩)
 ·exact .inr h
theorem aj.sq{k:Bool}{K:Frag}{H H':Hp}{a:Addr}{xs:List V}(e:aj H H')(h:Sq k K H a xs):Sq k K H' a xs:=by
 cases k with
 | true=>exact aj.at e h
 | false=>exact aj.seq e h
def CW(t:Nat)(l:Addr)(n:Nat)(f:Nat->V)(fr:St)(H1:Hp)(i m:Nat)(σ1:St)(ys:List V)(H':Hp):Prop :=
 m=n - i/\i<=n/\(∃ own:St,own.length=t/\σ1=own++fr)/\ys=(List.range i).map f/\aj H1 H'/\H' l=some (.lst ys)
theorem CW.next{t:Nat}{n:Nat}{i:Nat}(own:St)(ho:own.length=t)(hi:i<n)(hn:n<=1000000)(hl:H1 l=none)(hs:aj H1 H')(fE:H' l=some (.lst ((List.range i).map f)))(s5:aj H' H5)(ey:y=f i):
  H5 l=some (.lst ((List.range i).map f))/\((List.range i).map f).length<sizeLine/\CW t l n f fr H1 (i+1) (n - (i+1)) (own++fr) ((List.range i).map f++[y]) (upd H5 l (.lst ((List.range i).map f++[y]))):=by
 subst ey
 refine⟨s5 _ _ fE,?_,rfl,hi,⟨own,ho,rfl⟩,?_,fun b o e=>?_,aw⟩
 ·rw [aaz,aaL]
  exact Nat.lt_of_lt_of_le (Nat.lt_of_lt_of_le hi hn) aa8
 ·rw [range_succ,aaR];rfl
 ·rw [ay (aJ e hl)]
  exact s5 _ _ (hs _ _ e)
theorem EC(t:Nat)(fr:St)(n:Nat)(f:Nat->V)(gn:pick ix σ=List.replicate t none++fr)(ir:∀ H',aj H1 H'->J.stop n H')(FR:∀ i H',i<n->aj H1 H'->J.go i H')(step:∀ i x l H' H2 own,own.length=t->i<n->H1 l=none->aj H1 H'->H' l=some (.lst ((List.range i).map f))->J.Eg i H' x H2 ->
   g x (own++fr) H2 fun σ2 H3=>tt σ2 H3 fun b H4=>if b=true then te σ2 H4 fun y H5=>H5 l=some (.lst ((List.range i).map f))/\((List.range i).map f).length<sizeLine/\CW t l n f fr H1 (i+1) (n - (i+1)) σ2 ((List.range i).map f++[y]) (upd H5 l (.lst ((List.range i).map f++[y])))
    else CW t l n f fr H1 (i+1) (n - (i+1)) σ2 ((List.range i).map f) H4)(hQ:∀ l H',H1 l=none->aj H1 H'->H' l=some (.lst ((List.range n).map f))->Q (.ref l) H'):
  aV ix g tt te σ Q J H1:=by
 intro l hl
 refine⟨CW t l n f fr H1,⟨n,by simp,aa0 _,⟨_,length_replicate,gn⟩,rfl,aj.aZ hl,aw⟩,?_⟩
 rintro i m σ1 ys H' ⟨rfl,hi,⟨own,ho,rfl⟩,rfl,hs,fE⟩
 refine⟨fE,?_⟩
 by_cases fk:i<n
 ·exact .inr ⟨FR i H' fk hs,n - (i+1),aaa,fun x H2 hy=>step i x l H' H2 own ho fk hl hs fE hy⟩
 ·obtain rfl:i=n:=by lia
  exact .inl ⟨ir H' hs,hQ l H' hl hs fE⟩
theorem jz(fr:St)(n:Nat)(f:Nat->V)(gn:pick ix σ=none::fr)(hn:n<=1000000)(ir:∀ H',aj H1 H'->J.stop n H')(FR:∀ i H',i<n->aj H1 H'->J.go i H')(step:∀ i x H' H2 (Qc:VK),i<n->aj H1 H'->J.Eg i H' x H2->(∀ H5,aj H' H5->Qc (f i) H5)->te (some x::fr) H2 Qc)(hQ:∀ l H',H1 l=none->aj H1 H'->H' l=some (.lst ((List.range n).map f))->Q (.ref l) H'):aV ix (bu 0) (fun _ H Q=>Q true H) te σ Q J H1:=by
 refine EC 1 fr n f gn ir FR (fun i x l H' H2 own ho hi hl hs fE hy=>?_) hQ
 obtain ⟨o1,rfl⟩:∃ o1,own=[o1]:=by match own,ho with|[o1],_=>exact⟨o1,rfl⟩
 dsimp only [bu]
 rw [if_pos rfl]
 exact step i x H' H2 _ hi hs hy fun H5 s5=>CW.next (fr:=fr) [some x] rfl hi hn hl hs fE s5 rfl
theorem nA{K:Frag}{k1 k2:Bool}{a b:Addr}{xs ys:List V}{H1:Hp}{ix:List (Option Nat)}{σ:St}{te:TE}{Q:VK}(fr:St)(f:Nat->V)(gn:pick ix σ=none::none::fr)(ha:Sq k1 K H1 a xs)(hb:Sq k2 K H1 b ys)(hlen:xs.length=ys.length)(hn:xs.length<=1000000)
  (step:∀ i x y H' (Qc:VK),xs[i]?=some x->ys[i]?=some y->aj H1 H'->(∀ H5,aj H' H5->Qc (f i) H5)->te (some x::some y::fr) H' Qc)
  (hQ:∀ l H',H1 l=none->aj H1 H'->H' l=some (.lst ((List.range xs.length).map f))->Q (.ref l) H'):aV ix (wd K 2 (eS (bu 0) (eS (bu 1) yd))) (fun _ H Q=>Q true H) te σ Q (Mx K k1 k2 a b) H1:=by
 refine EC 2 fr xs.length f gn (fun H' s=>⟨_,_,s.sq ha,s.sq hb,.inl (aah _)⟩) (fun i H' hi s=>?_) (fun i x l H' H2 own ho hi hl hs fE hy=>?_) hQ
 ·exact⟨_,_,xs[i],ys[i]'(hlen ▸ hi),s.sq ha,s.sq hb,aat hi,aat (hlen ▸ hi)⟩
 ·obtain ⟨o1,o2,rfl⟩:∃ o1 o2,own=[o1,o2]:=by match own,ho with|[o1,o2],_=>exact⟨o1,o2,rfl⟩
  obtain ⟨p,x',y',rfl,hp,e1,e2,rfl⟩:=hy
  have g1:=e1 _ (hs.sq ha)
  have g2:=e2 _ (hs.sq hb)
  refine⟨p,_,rfl,aC.of aw,rfl,_,_,rfl,_,_,rfl,rfl,?_⟩
  show ite (true=true) _ _
  rw [if_pos rfl]
  exact step i x' y' _ _ g1 g2 (hs.trans (aj.aZ hp)) fun H5 s5=>CW.next (fr:=fr) [some x',some y'] rfl hi hn hl hs fE ((aj.aZ hp).trans s5) rfl
theorem dW{r:List Int}{i:Nat}{x:V}(h:(r.map V.int)[i]?=some x):x=.int (r.getD i 0)/\i<r.length:=by
 rw [aaQ] at h
 cases e:r[i]? with
 | none=>rw [e] at h;cases h
 | some z =>
  rw [e] at h
  have hl:=(aad.mp e).1
  refine⟨?_,hl⟩
  rw [<- (aaj h),List.getD,e];rfl
theorem int_at{r:List Int}{i:Nat}(h:i<r.length):(r.map V.int)[i]?=some (.int (r.getD i 0)):=by
 rw [aaQ,List.getD,aat h];rfl
theorem range_getD{α:Type}(f:Int->α)(r:List Int):(List.range r.length).map (fun i=>f (r.getD i 0))=r.map f:=by
 apply ext_getElem
 ·simp
 ·intro i h1 h2
  simp at h1 h2
  simp [List.getD,h1]
theorem FT{α:Type}(f:Int->Int->α)(r q:List Int)(h:r.length=q.length):(List.range r.length).map (fun i=>f (r.getD i 0) (q.getD i 0))=List.zipWith f r q:=by
 apply ext_getElem
 ·simp [h]
 ·intro i h1 h2
  simp at h1 h2
  have:i<q.length:=by lia
  simp [List.getD,h1,this]
theorem CL{K:Frag}{a b:Addr}{r q:List Int}{H1:Hp}{ix:List (Option Nat)}{σ:St}{Q:VK}(op:Int->Int->Int)(gn:pick ix σ=[none,none])(ha:aC K H1 a (r.map V.int))(hb:aC K H1 b (q.map V.int))(hlen:r.length=q.length)(hn:r.length<=1000)
  (hQ:∀ l H',H1 l=none->aj H1 H'->H' l=some (.lst ((List.zipWith op r q).map V.int))->Q (.ref l) H') :
  aV ix (wd K 2 (eS (bu 0) (eS (bu 1) yd))) (fun _ H Q=>Q true H) (HW (Md fun i j=>.int (op i j)) (sV 0) (sV 1)) σ Q (Mx K true true a b) H1:=by
 refine nA (k1:=true) (k2:=true) [] (fun i=>.int (op (r.getD i 0) (q.getD i 0))) gn ha hb (by simpa using hlen) (by rw [aaz];lia) (fun i x y H' Qc ex ey hs kc=>?_) fun l H' hl hs fE=>hQ l H' hl hs ?_
 ·obtain ⟨rfl,_⟩:=dW ex
  obtain ⟨rfl,_⟩:=dW ey
  exact⟨_,rfl,_,rfl,_,_,rfl,rfl,kc _ (aj.refl _)⟩
 ·rw [fE,aaz,FT (fun x y=>V.int (op x y)) r q hlen,List.map_zipWith]
theorem el{K:Frag}{a:Addr}{r:List Int}{H1:Hp}{ix:List (Option Nat)}{σ:St}{te:TE}{Q:VK}(F:Int->V)(fr:St)(gn:pick ix σ=none::fr)(ha:aC K H1 a (r.map V.int))(hn:r.length<=1000)
  (step:∀ x H' (Qc:VK),x∈r->aj H1 H'->(∀ H5,aj H' H5->Qc (F x) H5)->te (some (.int x)::fr) H' Qc)
  (hQ:∀ l H',H1 l=none->aj H1 H'->H' l=some (.lst (r.map F))->Q (.ref l) H'):aV ix (bu 0) (fun _ H Q=>Q true H) te σ Q (HS K a) H1:=by
 refine jz fr r.length (fun i=>F (r.getD i 0)) gn aaa (fun H' s=>⟨_,s.at ha,by simp⟩) (fun i H' hi s=>⟨_,_,s.at ha,int_at hi⟩) (fun i x H' H2 Qc hi hs hy kc=>?_) fun l H' hl hs fE=>hQ l H' hl hs ?_
 ·obtain ⟨rfl,e1⟩:=hy
  obtain ⟨rfl,_⟩:=dW (e1 _ (hs.at ha))
  exact step _ _ Qc (by rw [List.getD,aat hi];exact aa5 hi) hs kc
 ·rw [fE,range_getD F r]
theorem IF{n:Nat}(F:Int->V)(fr:St)(gn:pick ix σ=none::fr)(hn:n<=1000000)(step:∀ (i:Nat) H' (Qc:VK),i<n->aj H1 H'->(∀ H5,aj H' H5->Qc (F (i:Int)) H5)->te (some (.int (i:Int))::fr) H' Qc)(hQ:∀ l H',H1 l=none->aj H1 H'->H' l=some (.lst ((List.range n).map fun i=>F ((i:Nat):Int)))->Q (.ref l) H'):aV ix (bu 0) (fun _ H Q=>Q true H) te σ Q (Fw 0 n) H1:=by
 refine jz fr n (fun i=>F ((i:Nat):Int)) gn hn (fun _ _=>aah _) (fun i _ hi _=>hi) (fun i x H' H2 Qc hi hs hy kc=>?_) hQ
 obtain ⟨rfl,rfl⟩:=hy
 rw [Int.zero_add]
 exact step i _ Qc hi hs kc
end L2
namespace eL
def dX(a b c d e:Nat):Int:=2 ^ a*3 ^ b*5 ^ c*7 ^ d*11 ^ e
def YJ(ps:List Int)(es:List Int):Int:=(List.zipWith (fun p e=>p ^ e.toNat) ps es).foldl (·*·) 1
def Qo:List Int:=[2,3,5,7,11]
def num(es:List Int):Int:=YJ Qo es
theorem pw{p:Int}{n:Nat}(h:0<p):0<p ^ n:=by
 induction n with
 | zero=>rw [pow_zero];decide
 | succ n ih=>rw [Int.pow_succ];exact Int.mul_pos ih h
theorem xA(a b c d e:Nat):0<dX a b c d e:=by
 unfold dX
 have h2:=pw (n:=a) (show (0:Int)<2 by decide)
 have h3:=pw (n:=b) (show (0:Int)<3 by decide)
 have h5:=pw (n:=c) (show (0:Int)<5 by decide)
 have h7:=pw (n:=d) (show (0:Int)<7 by decide)
 have h11:=pw (n:=e) (show (0:Int)<11 by decide)
 exact Int.mul_pos (Int.mul_pos (Int.mul_pos (Int.mul_pos h2 h3) h5) h7) h11
theorem Mz{x y:Int}(hx:x % 2≠0)(hy:y % 2≠0):x*y % 2≠0:=by
 rw [mul_emod]
 have h1:x % 2=1:=by lia
 have h2:y % 2=1:=by lia
 rw [h1,h2];decide
theorem MA{x y:Int}(hx:x % 3≠0)(hy:y % 3≠0):x*y % 3≠0:=by
 rw [mul_emod]
 have h1:x % 3=1\/x % 3=2:=by lia
 have h2:y % 3=1\/y % 3=2:=by lia
 rcases h1 with h1|h1 <;> rcases h2 with h2|h2 <;> rw [h1,h2] <;> decide
theorem MB{x y:Int}(hx:x % 5≠0)(hy:y % 5≠0):x*y % 5≠0:=by
 rw [mul_emod]
 have h1:x % 5=1\/x % 5=2\/x % 5=3\/x % 5=4:=by lia
 have h2:y % 5=1\/y % 5=2\/y % 5=3\/y % 5=4:=by lia
 rcases h1 with h1|h1|h1|h1 <;> rcases h2 with h2|h2|h2|h2 <;> rw [h1,h2] <;> decide
theorem MC{x y:Int}(hx:x % 7≠0)(hy:y % 7≠0):x*y % 7≠0:=by
 rw [mul_emod]
 have h1:x % 7=1\/x % 7=2\/x % 7=3\/x % 7=4\/x % 7=5\/x % 7=6:=by lia
 have h2:y % 7=1\/y % 7=2\/y % 7=3\/y % 7=4\/y % 7=5\/y % 7=6:=by lia
 rcases h1 with h1|h1|h1|h1|h1|h1 <;> rcases h2 with h2|h2|h2|h2|h2|h2 <;> rw [h1,h2] <;> decide
theorem IG{x y:Int}(hx:x % 11≠0)(hy:y % 11≠0):x*y % 11≠0:=by
 rw [mul_emod]
 have k:∀ i:_root_.Fin 11,∀ j:_root_.Fin 11,i.val≠0->j.val≠0->(((i.val:Nat):Int)*((j.val:Nat):Int)) % 11≠0:=by decide
 obtain ⟨i,hi⟩:=eq_ofNat_of_zero_le (emod_nonneg x (show (11:Int)≠0 by decide))
 obtain ⟨j,hj⟩:=eq_ofNat_of_zero_le (emod_nonneg y (show (11:Int)≠0 by decide))
 have h1:=emod_lt_of_pos x (show (0:Int)<11 by decide)
 have h2:=emod_lt_of_pos y (show (0:Int)<11 by decide)
 rw [hi,hj]
 exact k ⟨i,aaa⟩ ⟨j,aaa⟩ (by show i≠0;lia) (by show j≠0;lia)
def P5(p:Int):Prop:=p=2\/p=3\/p=5\/p=7\/p=11
theorem P5.pos{p:Int}(h:P5 p):2<=p:=by rcases h with rfl|rfl|rfl|rfl|rfl <;> decide
theorem fF{p x y:Int}(hp:P5 p)(hx:x % p≠0)(hy:y % p≠0):x*y % p≠0:=by
 rcases hp with rfl|rfl|rfl|rfl|rfl
 ·exact Mz hx hy
 ·exact MA hx hy
 ·exact MB hx hy
 ·exact MC hx hy
 ·exact IG hx hy
theorem fG{p x:Int}(hp:P5 p)(hx:x % p≠0):∀ n:Nat,x ^ n % p≠0
 | 0=>by rw [pow_zero];rcases hp with rfl|rfl|rfl|rfl|rfl <;> decide
 | n+1=>by rw [Int.pow_succ];exact fF hp (fG hp hx n) hx
def Oy(m:Int):Prop:=∀ p,P5 p->m % p≠0
theorem P5.p2:P5 2:=.inl rfl
theorem P5.p3:P5 3:=.inr (.inl rfl)
theorem P5.p5:P5 5:=.inr (.inr (.inl rfl))
theorem P5.p7:P5 7:=.inr (.inr (.inr (.inl rfl)))
theorem P5.Xh:P5 11:=.inr (.inr (.inr (.inr rfl)))
def bl(x:Int):Nat:=if x == 0 then 0 else x.natAbs.log2+1
theorem fH{x:Int}{k:Nat}(h:x.natAbs<2 ^ k):bl x<=k:=by
 unfold bl
 split
 ·lia
 ·rename_i hx
  have Oz:x.natAbs≠0:=by simpa using hx
  have:=(log2_lt Oz).mpr h
  lia
def AA(a b c d e:Int):Int:=dX a.toNat b.toNat c.toNat d.toNat e.toNat
def yu(a b c d e:Int):Int:=dX (-a).toNat (-b).toNat (-c).toNat (-d).toNat (-e).toNat
theorem jA(a b c d e:Int):1<=AA a b c d e:=xA ..
theorem jB(a b c d e:Int):1<=yu a b c d e:=xA ..
def F(m:Int)(x y:Int):Prop:=2 ^ (-m).toNat*y<=2 ^ m.toNat*x
def rt(b c d e:Int):Int:=dX 0 b.toNat c.toNat d.toNat e.toNat
def rb(b c d e:Int):Int:=dX 0 (-b).toNat (-c).toNat (-d).toNat (-e).toNat
theorem tI{p:Int}(hp:1<=p){m n:Nat}(h:m<=n):p ^ m<=p ^ n:=by
 obtain ⟨k,rfl⟩:=Nat.exists_eq_add_of_le h
 rw [Int.pow_add]
 have h1:0<p ^ m:=pw aaa
 have h2:0<p ^ k:=pw aaa
 have:p ^ m*1<=p ^ m*p ^ k:=mul_le_mul_of_nonneg_left aaa aaa
 lia
theorem sC{x y u v:Int}(h1:x<=u)(h2:y<=v)(hx:0<x)(hy:0<y):x*y<=u*v :=
 Int.le_trans (Int.mul_le_mul_of_nonneg_right h1 aaa) (mul_le_mul_of_nonneg_left h2 aaa)
theorem lY{a b c d e a' b' c' d' e':Nat}(h1:a<=a')(h2:b<=b')(h3:c<=c')(h4:d<=d')(h5:e<=e'):dX a b c d e<=dX a' b' c' d' e':=by
 unfold dX
 have p2:=pw (n:=a) (show (0:Int)<2 by decide)
 have p3:=pw (n:=b) (show (0:Int)<3 by decide)
 have p5:=pw (n:=c) (show (0:Int)<5 by decide)
 have p7:=pw (n:=d) (show (0:Int)<7 by decide)
 have Xh:=pw (n:=e) (show (0:Int)<11 by decide)
 exact sC (sC (sC (sC (tI aa8 h1) (tI aa8 h2) p2 p3) (tI aa8 h3) (Int.mul_pos p2 p3) p5) (tI aa8 h4) (Int.mul_pos (Int.mul_pos p2 p3) p5) p7) (tI aa8 h5) (Int.mul_pos (Int.mul_pos (Int.mul_pos p2 p3) p5) p7) Xh
def ED(e0 e1 e2 e3 e4:Int):Nat->Int
 | 0=>1
 | 1=>1*2 ^ e0.toNat
 | 2=>1*2 ^ e0.toNat*3 ^ e1.toNat
 | 3=>1*2 ^ e0.toNat*3 ^ e1.toNat*5 ^ e2.toNat
 | 4=>1*2 ^ e0.toNat*3 ^ e1.toNat*5 ^ e2.toNat*7 ^ e3.toNat
 | _=>1*2 ^ e0.toNat*3 ^ e1.toNat*5 ^ e2.toNat*7 ^ e3.toNat*11 ^ e4.toNat
theorem OA(e0 e1 e2 e3 e4:Int):ED e0 e1 e2 e3 e4 5=dX e0.toNat e1.toNat e2.toNat e3.toNat e4.toNat:=by
 show 1*2 ^ e0.toNat*3 ^ e1.toNat*5 ^ e2.toNat*7 ^ e3.toNat*11 ^ e4.toNat=_
 unfold dX;rw [Int.one_mul]
theorem EE(e0 e1 e2 e3 e4:Int):ED e0 e1 e2 e3 e4 5=AA e0 e1 e2 e3 e4:=OA ..
theorem EF(e0 e1 e2 e3 e4:Int):ED (0 - e0) (0 - e1) (0 - e2) (0 - e3) (0 - e4) 5=yu e0 e1 e2 e3 e4:=by
 rw [OA];unfold yu;simp only [Int.zero_sub]
theorem P5.le{p:Int}(h:P5 p):p<12:=by rcases h with rfl|rfl|rfl|rfl|rfl <;> decide
def vT(c0 c1 c2 c3 c4:Nat)(m:Int):Nat->Int
 | 0=>2 ^ c0*(3 ^ c1*(5 ^ c2*(7 ^ c3*(11 ^ c4*m))))
 | 1=>3 ^ c1*(5 ^ c2*(7 ^ c3*(11 ^ c4*m)))
 | 2=>5 ^ c2*(7 ^ c3*(11 ^ c4*m))
 | 3=>7 ^ c3*(11 ^ c4*m)
 | 4=>11 ^ c4*m
 | _=>m
theorem OB(c0 c1 c2 c3 c4:Nat)(m:Int):vT c0 c1 c2 c3 c4 m 0=dX c0 c1 c2 c3 c4*m:=by
 show 2 ^ c0*(3 ^ c1*(5 ^ c2*(7 ^ c3*(11 ^ c4*m))))=_
 unfold dX;ac_rfl
theorem IH(c0 c1 c2 c3 c4:Nat)(m:Int):vT c0 c1 c2 c3 c4 m 0=2 ^ c0*vT c0 c1 c2 c3 c4 m 1:=rfl
theorem II(c0 c1 c2 c3 c4:Nat)(m:Int):vT c0 c1 c2 c3 c4 m 1=3 ^ c1*vT c0 c1 c2 c3 c4 m 2:=rfl
theorem IJ(c0 c1 c2 c3 c4:Nat)(m:Int):vT c0 c1 c2 c3 c4 m 2=5 ^ c2*vT c0 c1 c2 c3 c4 m 3:=rfl
theorem IK(c0 c1 c2 c3 c4:Nat)(m:Int):vT c0 c1 c2 c3 c4 m 3=7 ^ c3*vT c0 c1 c2 c3 c4 m 4:=rfl
theorem IL(c0 c1 c2 c3 c4:Nat)(m:Int):vT c0 c1 c2 c3 c4 m 4=11 ^ c4*vT c0 c1 c2 c3 c4 m 5:=rfl
section
variable (c0 c1 c2 c3 c4:Nat){m:Int}(h:Oy m)
include h
theorem IM:vT c0 c1 c2 c3 c4 m 1 % 2≠0:=fF .p2 (fG .p2 aa8 _) (fF .p2 (fG .p2 aa8 _) (fF .p2 (fG .p2 aa8 _) (fF .p2 (fG .p2 aa8 _) (h _ .p2))))
theorem IP:vT c0 c1 c2 c3 c4 m 2 % 3≠0:=fF .p3 (fG .p3 aa8 _) (fF .p3 (fG .p3 aa8 _) (fF .p3 (fG .p3 aa8 _) (h _ .p3)))
theorem IQ:vT c0 c1 c2 c3 c4 m 3 % 5≠0:=fF .p5 (fG .p5 aa8 _) (fF .p5 (fG .p5 aa8 _) (h _ .p5))
theorem IS:vT c0 c1 c2 c3 c4 m 4 % 7≠0:=fF .p7 (fG .p7 aa8 _) (h _ .p7)
theorem IT:vT c0 c1 c2 c3 c4 m 5 % 11≠0:=h _ .Xh
end
theorem AB{α β:Type}{f:α->β}{qs ps:List β}(h:qs.Perm ps):∀ {l:List α},ps=l.map f->∃ m:List α,m.Perm l/\qs=m.map f:=by
 induction h with
 | nil=>intro l e;exact⟨[],by rw [map_eq_nil_iff.mp e.symm],rfl⟩
 | cons x _ ih =>
  intro l e
  cases l with
  | nil=>cases e
  | cons a l =>
   rw [map_cons] at e
   injection e with e1 e2
   obtain ⟨m,p,q⟩:=ih e2
   exact⟨a::m,p.cons a,by rw [map_cons,q,e1]⟩
 | swap x y l0 =>
  intro l e
  match l,e with
  | a::b::l,e =>
   simp only [map_cons,List.cons.injEq] at e
   obtain ⟨e1,e2,e3⟩:=e
   exact⟨b::a::l,.swap _ _ _,by rw [map_cons,map_cons,e1,e2,e3]⟩
 | trans _ _ YK YL =>
  intro l e
  obtain ⟨m,p,q⟩:=YL e
  obtain ⟨m',p',q'⟩:=YK q
  exact⟨m',p'.trans p,q'⟩
def sub(a b:List Int):List Int:=List.zipWith (· - ·) a b
def bH(r:List Int)(k:Int):List Int:=r.map (·*k)
def cz(n:Nat):List Int:=List.replicate n 0
theorem sub_len{n:Nat}(ha:a.length=n)(hb:b.length=n):(sub a b).length=n:=by simp [sub,ha,hb]
theorem aF{n:Nat}{k:Int}(h:r.length=n):(bH r k).length=n:=by simp [bH,h]
theorem aI(n:Nat):(cz n).length=n:=by simp [cz]
theorem bB{n:Nat}(ha:a.length=n)(hb:b.length=n)(i:Nat):(sub a b).getD i 0=a.getD i 0 - b.getD i 0:=by
 by_cases h:i<n
 ·simp only [sub,List.getD,getElem?_zipWith]
  rw [aat aaa,aat aaa]
  rfl
 ·simp only [sub,List.getD]
  rw [getElem?_eq_none (by simp;lia),getElem?_eq_none aaa,getElem?_eq_none aaa]
  rfl
theorem bt(r:List Int)(k:Int)(i:Nat):(bH r k).getD i 0=r.getD i 0*k:=by
 simp only [bH,List.getD,aaQ]
 cases r[i]? <;> simp
theorem ba(n i:Nat):(cz n).getD i 0=0:=by
 simp only [cz,List.getD,List.getElem?_replicate]
 split <;> rfl
theorem bo{a b:List Int}{n:Nat}(ha:a.length=n)(hb:b.length=n)(h:∀ i,i<n->a.getD i 0=b.getD i 0):a=b:=by
 apply ext_getElem aaa
 intro i h1 h2
 have:=h i aaa
 rw [List.getD,List.getD,aat h1,aat h2] at this
 exact this
def Cl(n:Nat)(P:List Int->Prop):Prop:=P (cz n)/\∀ a b:List Int,a.length=n->b.length=n->P a->P b->P (sub a b)
def Span(n:Nat)(rs:List (List Int))(v:List Int):Prop:=∀ P:List Int->Prop,Cl n P->(∀ r∈rs,P r)->P v
def Len(n:Nat)(rs:List (List Int)):Prop:=∀ r∈rs,r.length=n
theorem Span.mem{n:Nat}(h:r∈rs):Span n rs r:=fun _ _ k=>k r h
theorem Span.zero{n:Nat}:Span n rs (cz n):=fun _ c _=>c.1
theorem Span.sub{n:Nat}(la:a.length=n)(lb:b.length=n)(ha:Span n rs a)(hb:Span n rs b):Span n rs (eL.sub a b):=fun P c k=>c.2 a b la lb (ha P c k) (hb P c k)
theorem Span.cl{n:Nat}(rs:List (List Int)):Cl n (Span n rs):=⟨Span.zero,fun _ _ la lb ha hb=>Span.sub la lb ha hb⟩
theorem Span.of{n:Nat}(h:Span n rs v)(hq:∀ r∈rs,Span n qs r):Span n qs v:=h _ (Span.cl qs) hq
theorem Span.len{n:Nat}(h:Span n rs v)(hl:Len n rs):v.length=n:=h (fun v=>v.length=n) ⟨aI n,fun _ _ ha hb _ _=>sub_len ha hb⟩ hl
theorem Span.neg{n:Nat}(la:a.length=n)(ha:Span n rs a):Span n rs (bH a (-1)):=by
 have e:bH a (-1)=eL.sub (cz n) a:=bo (aF la) (sub_len (aI n) la) fun i _=>by rw [bt,bB (aI n) la,ba];lia
 rw [e]
 exact Span.sub (aI n) la Span.zero ha
theorem Span.Qp{n:Nat}(la:a.length=n)(ha:Span n rs a):∀ k:Nat,Span n rs (bH a k)
 | 0=>by
  have e:bH a ((0:Nat):Int)=cz n:=bo (aF la) (aI n) fun i _=>by rw [bt,ba];simp
  rw [e]
  exact Span.zero
 | k+1=>by
  have e:bH a ((k+1:Nat):Int)=eL.sub (bH a k) (bH a (-1)):=bo (aF la) (sub_len (aF la) (aF la)) fun i _=>by
   rw [bt,bB (aF la) (aF la),bt,bt,Int.natCast_add,Int.mul_add]
   simp
  rw [e]
  exact Span.sub (aF la) (aF la) (Span.Qp la ha k) (Span.neg la ha)
theorem Span.mul{n:Nat}(la:a.length=n)(ha:Span n rs a)(k:Int):Span n rs (bH a k):=by
 rcases Int.le_total 0 k with h|h
 ·obtain ⟨m,rfl⟩:=eq_ofNat_of_zero_le h
  exact Span.Qp la ha m
 ·obtain ⟨m,e⟩:=eq_ofNat_of_zero_le (show 0<=-k by lia)
  have e2:bH a k=bH (bH a m) (-1):=bo (aF la) (aF (aF la)) fun i _=>by
   rw [bt,bt,bt,Int.mul_assoc]
   congr 1
   lia
  rw [e2]
  exact Span.neg (aF la) (Span.Qp la ha m)
def low(v s:List Int)(q:Int):List Int:=sub v (bH s q)
theorem bO{n:Nat}{q:Int}(hv:v.length=n)(hs:s.length=n):(low v s q).length=n:=sub_len hv (aF hs)
theorem cm{n:Nat}(hv:v.length=n)(hs:s.length=n)(q:Int)(i:Nat):(low v s q).getD i 0=v.getD i 0 - s.getD i 0*q:=by rw [low,bB hv (aF hs),bt]
theorem Span.low{n:Nat}(lv:v.length=n)(ls:s.length=n)(hv:Span n rs v)(hs:Span n rs s)(q:Int):Span n rs (eL.low v s q):=Span.sub lv (aF ls) hv (Span.mul ls hs q)
theorem Span.OC{n:Nat}{q:Int}(lv:v.length=n)(ls:s.length=n)(hl:Span n rs (eL.low v s q))(hs:Span n rs s):Span n rs v:=by
 have e:v=eL.sub (eL.low v s q) (bH s (-q)):=bo lv (sub_len (bO lv ls) (aF ls)) fun i _=>by
  rw [bB (bO lv ls) (aF ls),cm lv ls,bt]
  rw [mul_neg]
  lia
 rw [e]
 exact Span.sub (bO lv ls) (aF ls) hl (Span.mul ls hs _)
def Eqv(n:Nat)(rs qs:List (List Int)):Prop:=(∀ r∈rs,Span n qs r)/\∀ q∈qs,Span n rs q
theorem Eqv.refl{n:Nat}:Eqv n rs rs:=⟨fun _=>Span.mem,fun _=>Span.mem⟩
theorem Eqv.symm{n:Nat}(h:Eqv n rs qs):Eqv n qs rs:=⟨h.2,h.1⟩
theorem Eqv.trans{n:Nat}(h:Eqv n rs qs)(k:Eqv n qs ts):Eqv n rs ts:=⟨fun r hr=>(h.1 r hr).of k.1,fun t ht=>(k.2 t ht).of h.2⟩
theorem Eqv.span{n:Nat}(h:Eqv n rs qs)(hv:Span n rs v):Span n qs v:=hv.of h.1
theorem Span.UH{n:Nat}(h:Span n qs v):Span n (rs++qs) v:=h.of fun _ hr=>Span.mem (aau _ hr)
theorem Eqv.turn{n:Nat}(f:List Int->Int)(ls:s.length=n)(lr:Len n rs):Eqv n (s::rs++os) (s::(rs.map fun v=>eL.low v s (f v))++os):=by
 have xy:Span n (s::rs++os) s:=Span.mem (by simp)
 have iC:Span n (s::(rs.map fun v=>eL.low v s (f v))++os) s:=Span.mem (by simp)
 refine⟨fun r hr=>?_,fun r hr=>?_⟩
 ·rcases aax.mp hr with h|h
  ·rcases aaC.mp h with rfl|h
   ·exact iC
   ·exact Span.OC (q:=f r) (lr r h) ls (Span.mem (aav _ (aaB _ (aaD.mpr ⟨r,h,rfl⟩)))) iC
  ·exact Span.mem (aau _ h)
 ·rcases aax.mp hr with h|h
  ·rcases aaC.mp h with rfl|h
   ·exact xy
   ·obtain ⟨v,hv,rfl⟩:=aaD.mp h
    exact Span.low (lr v hv) ls (Span.mem (aav _ (aaB _ hv))) xy _
  ·exact Span.mem (aau _ h)
def cG(r:List Int)(k:Nat):Prop:=0<r.getD k 0/\∀ i,k<i->r.getD i 0=0
theorem cG.uniq{j k:Nat}(a:cG r j)(b:cG r k):j=k:=by
 rcases lt_trichotomy j k with h|h|h
 ·have:=a.2 k h
  have:=b.1
  lia
 ·exact h
 ·have:=b.2 j h
  have:=a.1
  lia
def YM(a b:List Int):Prop:=∀ k,cG b k->(∃ j,k<j/\cG a j)/\0<=a.getD k 0/\a.getD k 0<b.getD k 0
def SF(rs:List (List Int)):Prop:=(∀ r∈rs,∃ k,cG r k)/\rs.Pairwise YM
theorem SF.tail(h:SF (a::rs)):SF rs:=⟨fun r hr=>h.1 r (aaB _ hr),(aa3.mp h.2).2⟩
theorem Span.cons{n:Nat}(la:a.length=n)(lr:Len n rs)(h:Span n (a::rs) v):∃ c,v.length=n/\Span n rs (eL.low v a c):=by
 refine h (fun v=>∃ c,v.length=n/\Span n rs (eL.low v a c)) ⟨⟨0,aI n,?_⟩,?_⟩ ?_
 ·have e:eL.low (cz n) a 0=cz n:=bo (bO (aI n) la) (aI n) fun i _=>by rw [cm (aI n) la,ba];simp
  rw [e]
  exact Span.zero
 ·rintro x y lx ly ⟨c,_,hc⟩ ⟨d,_,hd⟩
  refine⟨c - d,sub_len lx ly,?_⟩
  have e:eL.low (eL.sub x y) a (c - d)=eL.sub (eL.low x a c) (eL.low y a d):=bo (bO (sub_len lx ly) la) (sub_len (bO lx la) (bO ly la)) fun i _=>by
   rw [cm (sub_len lx ly) la,bB lx ly,bB (bO lx la) (bO ly la),cm lx la,cm ly la,Int.mul_sub]
   lia
  rw [e]
  exact Span.sub (bO lx la) (bO ly la) hc hd
 ·intro r hr
  rcases aaC.mp hr with rfl|hr
  ·refine⟨1,la,?_⟩
   have e:eL.low r r 1=cz n:=bo (bO la la) (aI n) fun i _=>by rw [cm la la,ba];lia
   rw [e]
   exact Span.zero
  ·refine⟨0,lr r hr,?_⟩
   have e:eL.low r a 0=r:=bo (bO (lr r hr) la) (lr r hr) fun i _=>by rw [cm (lr r hr) la];simp
   rw [e]
   exact Span.mem hr
theorem Span.none{n:Nat}(h:Span n [] v):v=cz n:=h (fun v=>v=cz n) ⟨rfl,fun a b _ _ ha hb=>by
 rw [ha,hb]
 exact bo (sub_len (aI n) (aI n)) (aI n) fun i _=>by rw [bB (aI n) (aI n),ba];rfl⟩ fun _ hr=>nomatch hr
theorem Span.Xi{n i:Nat}(lr:Len n rs)(h:Span n rs v)(h0:∀ r∈rs,r.getD i 0=0):v.getD i 0=0 :=
 (h (fun v=>v.length=n/\v.getD i 0=0) ⟨⟨aI n,ba n i⟩,fun a b la lb ha hb=>⟨sub_len la lb,by rw [bB la lb,ha.2,hb.2];rfl⟩⟩ fun r hr=>⟨lr r hr,h0 r hr⟩).2
theorem SF.AD(h:SF (a::rs)){j i:Nat}(hj:cG a j)(hi:j<=i):∀ r∈rs,r.getD i 0=0:=fun r hr=>by
 obtain ⟨k,hk⟩:=h.1 r (aaB _ hr)
 obtain ⟨⟨j',Qq,lj⟩,_⟩:=(aa3.mp h.2).1 r hr k hk
 have:=lj.uniq hj
 exact hk.2 i aaa
theorem SF.split{n:Nat}{j:Nat}(h:SF (a::rs))(la:a.length=n)(lr:Len n rs)(hj:cG a j)(hv:Span n (a::rs) v):
  ∃ c,Span n rs (eL.low v a c)/\v.getD j 0=a.getD j 0*c/\∀ i,j<i->v.getD i 0=0:=by
 obtain ⟨c,lv,hs⟩:=Span.cons la lr hv
 refine⟨c,hs,?_,fun i hi=>?_⟩
 ·have:=Span.Xi (i:=j) lr hs (h.AD hj (aah _))
  rw [cm lv la] at this
  lia
 ·have:=Span.Xi (i:=i) lr hs (h.AD hj aaa)
  rw [cm lv la,hj.2 i hi] at this
  lia
theorem IU{n:Nat}(lv:v.length=n)(la:a.length=n):eL.low v a 0=v:=bo (bO lv la) lv fun i _=>by rw [cm lv la];simp
theorem SF.rest{n:Nat}{j:Nat}(h:SF (a::rs))(la:a.length=n)(lr:Len n rs)(hj:cG a j)(hv:Span n (a::rs) v)(h0:v.getD j 0=0):Span n rs v:=by
 have lv:v.length=n:=hv.len fun r hr=>(aaC.mp hr).elim (fun z=>z ▸ la) (lr r)
 obtain ⟨c,hs,e,_⟩:=h.split la lr hj hv
 rw [h0] at e
 have hc:c=0:=by
  rcases aaX.mp e.symm with z|z
  ·have:=hj.1
   lia
  ·exact z
 rw [hc,IU lv la] at hs
 exact hs
theorem FU{x l c:Int}(h:x=l*c)(hl:0<l)(h1:-l<x)(h2:x<l):x=0:=by
 rcases Int.lt_trichotomy c 0 with z|z|z
 ·have:l*c<=l*(-1):=mul_le_mul_of_nonneg_left aaa aaa
  lia
 ·rw [z,mul_zero] at h
  exact h
 ·have:l*1<=l*c:=mul_le_mul_of_nonneg_left aaa aaa
  lia
theorem SF.small{n:Nat}:∀ {rs:List (List Int)} {v:List Int},SF rs->Len n rs->Span n rs v->(∀ r∈rs,∀ k,cG r k->-(r.getD k 0)<v.getD k 0/\v.getD k 0<r.getD k 0)->v=cz n
 | [],v,_,_,hv,_=>hv.none
 | a::rs,v,h,lr,hv,hs=>by
  obtain ⟨j,hj⟩:=h.1 a (.head _)
  have la:=lr a (.head _)
  have YN:Len n rs:=fun r hr=>lr r (aaB _ hr)
  obtain ⟨c,_,e,_⟩:=h.split la YN hj hv
  have h0:=FU e hj.1 (hs a (.head _) j hj).1 (hs a (.head _) j hj).2
  exact SF.small h.tail YN (h.rest la YN hj hv h0) fun r hr=>hs r (aaB _ hr)
theorem Qr{x y c d:Int}(hx:0<x)(hy:0<y)(h1:x=y*c)(h2:y=x*d):x=y:=by
 have hc:0<c:=by
  rcases Int.lt_or_le 0 c with z|z
  ·exact z
  ·have:y*c<=y*0:=mul_le_mul_of_nonneg_left z aaa
   lia
 have hd:0<d:=by
  rcases Int.lt_or_le 0 d with z|z
  ·exact z
  ·have:x*d<=x*0:=mul_le_mul_of_nonneg_left z aaa
   lia
 have a1:y*1<=y*c:=mul_le_mul_of_nonneg_left aaa aaa
 have a2:x*1<=x*d:=mul_le_mul_of_nonneg_left aaa aaa
 lia
theorem SF.uniq{n:Nat}:∀ {as bs:List (List Int)},SF as->SF bs->Len n as->Len n bs->Eqv n as bs->as=bs
 | [],[],_,_,_,_,_=>rfl
 | [],b::bs,_,hb,_,_,e=>by
  obtain ⟨k,hk⟩:=hb.1 b (.head _)
  have z:=(e.2 b (.head _)).none
  have:=hk.1
  rw [z,ba] at this
  lia
 | a::as,[],ha,_,_,_,e=>by
  obtain ⟨k,hk⟩:=ha.1 a (.head _)
  have z:=(e.1 a (.head _)).none
  have:=hk.1
  rw [z,ba] at this
  lia
 | a::as,b::bs,ha,hb,la,lb,e=>by
  obtain ⟨j,hj⟩:=ha.1 a (.head _)
  obtain ⟨k,hk⟩:=hb.1 b (.head _)
  have Qs:=la a (.head _)
  have OD:=lb b (.head _)
  have Xj:Len n as:=fun r hr=>la r (aaB _ hr)
  have Xk:Len n bs:=fun r hr=>lb r (aaB _ hr)
  obtain ⟨c,s1,e1,z1⟩:=hb.split OD Xk hk (e.1 a (.head _))
  obtain ⟨d,s2,e2,z2⟩:=ha.split Qs Xj hj (e.2 b (.head _))
  have ejk:j=k:=by
   rcases lt_trichotomy j k with h|h|h
   ·have:=z2 k h
    have:=hk.1
    lia
   ·exact h
   ·have:=z1 j h
    have:=hj.1
    lia
  subst ejk
  have elead:a.getD j 0=b.getD j 0:=Qr hj.1 hk.1 e1 e2
  have et:Eqv n as bs:=⟨fun r hr=>hb.rest OD Xk hk (e.1 r (aaB _ hr)) (ha.AD hj (aah _) r hr),fun r hr=>ha.rest Qs Xj hj (e.2 r (aaB _ hr)) (hb.AD hk (aah _) r hr)⟩
  have eas:=SF.uniq ha.tail hb.tail Xj Xk et
  subst eas
  have hd0:Span n as (eL.sub a b):=by
   refine hb.rest OD Xk hk (Span.sub Qs OD (e.1 a (.head _)) (Span.mem (.head _))) ?_
   rw [bB Qs OD]
   lia
  have hz:=SF.small ha.tail Xj hd0 fun r hr k hk=>by
   have b1:=((aa3.mp ha.2).1 r hr k hk).2
   have b2:=((aa3.mp hb.2).1 r hr k hk).2
   rw [bB Qs OD]
   lia
  have eab:a=b:=bo Qs OD fun i _=>by
   have:=congrArg (fun l=>List.getD l i 0) hz
   simp only [ba] at this
   rw [bB Qs OD] at this
   lia
  rw [eab]
def qt(v s:List Int)(p:Nat):Int:=(v.getD p 0).fdiv (s.getD p 0)
def bC(p:Nat)(s v:List Int):List Int:=low v s (qt v s p)
theorem fI{n p:Nat}(hv:v.length=n)(hs:s.length=n):(bC p s v).length=n:=bO hv hs
theorem oM{n p:Nat}(hv:v.length=n)(hs:s.length=n):(bC p s v).getD p 0=(v.getD p 0).fmod (s.getD p 0):=by rw [bC,cm hv hs,qt,Int.fmod_def]
theorem CM{x y a:Int}(e:x+y=a):x=a - y:=by rw [<- e,Int.add_sub_cancel]
theorem qk(a:Int){b:Int}(hb:b≠0):(a.fmod b).natAbs<b.natAbs/\(0<b->0<=a.fmod b)/\(b<0->a.fmod b<=0):=by
 rcases Int.lt_or_gt_of_ne hb with h|h
 ·have e:=Int.neg_fmod_neg a b
  have h1:=Int.fmod_nonneg_of_pos (-a) (show 0 < -b by lia)
  have h2:=Int.fmod_lt_of_pos (-a) (show 0 < -b by lia)
  lia
 ·have h1:=Int.fmod_nonneg_of_pos a h
  have h2:=Int.fmod_lt_of_pos a h
  lia
theorem UI{a b:Int}(hb:b≠0)(IV:b.natAbs<=a.natAbs):(a.fdiv b).natAbs*b.natAbs<=2*a.natAbs:=by
 have e:=Int.mul_fdiv_add_fmod a b
 have h:=qk a hb
 have e2:(b*a.fdiv b).natAbs=(a.fdiv b).natAbs*b.natAbs:=by rw [aaV,Nat.mul_comm]
 have e3:b*a.fdiv b=a - a.fmod b:=CM e
 rw [<- e2,e3]
 exact aag (natAbs_sub_le _ _) aaa
def Alike(a b:Int):Prop:=(0<a/\0<b)\/(a<0/\b<0)
theorem Qu{a b:Int}(hs:Alike a b)(IV:b.natAbs<=a.natAbs):(a.fdiv b).natAbs*b.natAbs+(a.fmod b).natAbs=a.natAbs:=by
 have e:=Int.mul_fdiv_add_fmod a b
 have hb:b≠0:=by rcases hs with h|h <;> lia
 have h:=qk a hb
 have e2:(b*a.fdiv b).natAbs=(a.fdiv b).natAbs*b.natAbs:=by rw [aaV,Nat.mul_comm]
 have e3:b*a.fdiv b=a - a.fmod b:=CM e
 rw [<- e2,e3]
 have hl:=aag (aai h.1) IV
 rcases hs with z|z
 ·have h1:=h.2.1 z.2
  rw [<- Int.natAbs_add_of_nonneg (by clear e e2 e3 h IV hb;lia) h1,Int.sub_add_cancel]
 ·have h1:=h.2.2 z.2
  rw [<- Int.natAbs_add_of_nonpos (by clear e e2 e3 h IV hb;lia) h1,Int.sub_add_cancel]
def bY(M:Nat)(r:List Int):Prop:=∀ i,(r.getD i 0).natAbs<=M
theorem bY.mono{M N:Nat}(h:bY M r)(k:M<=N):bY N r:=fun i=>aag (h i) k
theorem IW{n M Q:Nat}{q:Int}(hv:v.length=n)(hs:s.length=n)(bv:bY M v)(bs:bY M s)(hq:q.natAbs<=Q):bY (M+M*Q) (low v s q):=fun i=>by
 rw [cm hv hs]
 have h1:=natAbs_sub_le (v.getD i 0) (s.getD i 0*q)
 have h2:(s.getD i 0*q).natAbs<=M*Q:=by rw [aaV];exact aaI (bs i) hq
 have h3:=bv i
 lia
def at'(p:Nat)(v:List Int):Nat:=(v.getD p 0).natAbs
structure PS(n p M m l:Nat)(led os:List (List Int)):Prop where
 len:∀ v∈led++os,v.length=n
 bd:∀ v∈led++os,bY M v
 lo:∀ v∈led,l<=at' p v/\at' p v<=m
 pos:0<l
 big:∃ v∈led,at' p v=m
 low:∃ v∈led,at' p v=l
 one:(∀ v∈led,0<v.getD p 0)\/∀ v∈led,v.getD p 0<0
 zero:∀ v∈os,v.getD p 0=0
def cq(p:Nat)(s:List Int)(rest:List (List Int)):List (List Int):=(rest.map (bC p s)).filter (fun v=>v.getD p 0 != 0)
def fi(p:Nat)(s:List Int)(rest:List (List Int)):List (List Int):=(rest.map (bC p s)).filter (fun v=>v.getD p 0 == 0)
theorem IX{p:Nat}:x∈rest.map (bC p s)↔x∈cq p s rest\/x∈fi p s rest:=by
 unfold cq fi
 rw [aaE,aaE]
 constructor
 ·intro h
  by_cases e:x.getD p 0=0
  ·exact .inr ⟨h,by simpa using e⟩
  ·exact .inl ⟨h,by simpa using e⟩
 ·rintro (h|h) <;> exact h.1
theorem Eqv.mem{n:Nat}(h:∀ x,x∈rs↔x∈qs):Eqv n rs qs:=⟨fun r hr=>Span.mem ((h r).mp hr),fun q hq=>Span.mem ((h q).mpr hq)⟩
theorem IY{n p:Nat}(ls:s.length=n)(lr:Len n rest):Eqv n (s::rest++os) (s::cq p s rest++(os++fi p s rest)):=by
 refine (Eqv.turn (fun v=>qt v s p) ls lr).trans (Eqv.mem fun x=>?_)
 have h:=IX (p:=p) (s:=s) (x:=x) (rest:=rest)
 have h':x∈(rest.map fun v=>low v s (qt v s p))↔x∈cq p s rest\/x∈fi p s rest:=h
 simp only [aax,aaC,h']
 constructor
 ·rintro ((h|h|h)|h)
  ·exact .inl (.inl h)
  ·exact .inl (.inr h)
  ·exact .inr (.inr h)
  ·exact .inr (.inl h)
 ·rintro ((h|h)|h|h)
  ·exact .inl (.inl h)
  ·exact .inl (.inr (.inl h))
  ·exact .inr h
  ·exact .inl (.inr (.inr h))
def mz(p:Nat)(rs:List (List Int)):Nat:=(rs.map (at' p)).sum
theorem xB(p:Nat)(f:List Int->Bool):∀ rs:List (List Int),mz p (rs.filter f)<=mz p rs
 | []=>aah _
 | r::rs=>by
  have h:=xB p f rs
  unfold mz at h ⊢
  rw [filter_cons]
  split <;> simp only [map_cons,sum_cons] <;> lia
theorem EG{p l:Nat}:∀ {rest:List (List Int)},rest≠[]->(∀ v∈rest,l<=at' p v)->(∀ v∈rest,at' p (bC p s v)<l)->mz p (rest.map (bC p s))<mz p rest
 | [],h,_,_=>absurd rfl h
 | [v],_,h1,h2=>by
  have a:=h1 v (.head _)
  have b:=h2 v (.head _)
  simp only [mz,map_cons,map_nil,sum_cons,List.sum_nil]
  lia
 | v::w::r,_,h1,h2=>by
  have a:=h1 v (.head _)
  have b:=h2 v (.head _)
  have c:=EG (rest:=w::r) (by simp) (fun x hx=>h1 x (aaB _ hx)) (fun x hx=>h2 x (aaB _ hx))
  simp only [mz,map_cons,sum_cons] at c ⊢
  lia
theorem nB{n p:Nat}(hv:v.length=n)(hs:s.length=n)(h0:s.getD p 0≠0):at' p (bC p s v)<at' p s:=by
 have:=(qk (v.getD p 0) h0).1
 unfold at'
 rw [oM hv hs]
 exact this
def PI(n p M:Nat)(led os:List (List Int)):Prop :=
 (∀ v∈led++os,v.length=n)/\(∀ v∈led,v.getD p 0≠0)/\(∀ v∈os,v.getD p 0=0) /\
  ((∀ v∈led++os,bY M v)\/(∃ m l M',PS n p M' m l led os/\M'*m*m*l<=3*(M*M*M*M))\/(led.length<=1/\∀ v∈led++os,bY (6*(M*M*M*M)) v))
theorem kF(a:Int){b:Int}(hb:b≠0):(a.fdiv b).natAbs<=a.natAbs:=by
 have e:=Int.mul_fdiv_add_fmod a b
 have h:=(qk a hb).1
 have e2:(b*a.fdiv b).natAbs=(a.fdiv b).natAbs*b.natAbs:=by rw [aaV,Nat.mul_comm]
 rw [CM e] at e2
 have h0:=natAbs_sub_le a (a.fmod b)
 rw [e2] at h0
 clear e e2
 generalize (a.fdiv b).natAbs=q at *
 cases q with
 | zero=>exact aa0 _
 | succ k =>
  have h1:k*1<=k*b.natAbs:=mul_le_mul_left _ aaa
  rw [add_mul,one_mul] at h0
  lia
theorem yv{n p S L:Nat}(hv:v.length=n)(hs:s.length=n)(h0:s.getD p 0≠0)(bv:bY S v)(bs:bY L s):bY (S+L*S) (bC p s v):=fun i=>by
 unfold bC
 rw [cm hv hs]
 have h1:=natAbs_sub_le (v.getD i 0) (s.getD i 0*qt v s p)
 have h2:(s.getD i 0*qt v s p).natAbs<=L*S:=by rw [aaV];exact aaI (bs i) (aag (kF _ h0) (bv p))
 have h3:=bv i
 lia
theorem dD{n p i:Nat}(hv:v.length=n)(hs:s.length=n)(h0:s.getD i 0=0):(bC p s v).getD i 0=v.getD i 0:=by
 unfold bC
 rw [cm hv hs,h0]
 lia
theorem cG.bC{n p k:Nat}(hv:v.length=n)(hs:s.length=n)(hL:cG s p)(hk:p<k):cG (eL.bC p s v) k↔cG v k:=by
 unfold cG
 rw [dD hv hs (hL.2 k hk)]
 constructor
 ·rintro ⟨a,b⟩
  exact⟨a,fun i hi=>by have z:=b i hi;rw [dD hv hs (hL.2 i aaa)] at z;exact z⟩
 ·rintro ⟨a,b⟩
  exact⟨a,fun i hi=>by rw [dD hv hs (hL.2 i aaa)];exact b i hi⟩
theorem SF.add{n p:Nat}(h:SF st)(hl:∀ r∈st,∃ k,p<k/\cG r k)(lst:Len n st)(ls:s.length=n)(hL:cG s p):
  SF (st.map (eL.bC p s)++[s])/\∀ r∈st.map (eL.bC p s)++[s],∃ k,p<=k/\cG r k:=by
 have fE:∀ r∈st,∃ k,p<k/\cG (eL.bC p s r) k:=fun r hr=>by
  obtain ⟨k,hk,z⟩:=hl r hr
  exact⟨k,hk,(cG.bC (lst r hr) ls hL hk).mpr z⟩
 have all:∀ r∈st.map (eL.bC p s)++[s],∃ k,p<=k/\cG r k:=fun r hr=>by
  rcases aax.mp hr with a|a
  ·obtain ⟨u,hu,rfl⟩:=aaD.mp a
   obtain ⟨k,hk,z⟩:=fE u hu
   exact⟨k,aaa,z⟩
  ·rw [aaw.mp a]
   exact⟨p,aah _,hL⟩
 refine⟨⟨fun r hr=>?_,?_⟩,all⟩
 ·obtain ⟨k,_,z⟩:=all r hr
  exact⟨k,z⟩
 ·rw [List.pairwise_append]
  refine⟨?_,List.pairwise_singleton _ _,fun a ha b hb=>?_⟩
  ·rw [pairwise_map]
   refine List.Pairwise.imp_of_mem (fun {a b} ha hb IV k hk=>?_) h.2
   obtain ⟨kb,YO,zb⟩:=hl b hb
   have e:=hk.uniq ((cG.bC (lst b hb) ls hL YO).mpr zb)
   subst e
   obtain ⟨⟨j,hj,zj⟩,r1,r2⟩:=IV k zb
   rw [dD (lst a ha) ls (hL.2 k YO),dD (lst b hb) ls (hL.2 k YO)]
   exact⟨⟨j,hj,(cG.bC (lst a ha) ls hL aaa).mpr zj⟩,r1,r2⟩
  ·obtain ⟨u,hu,rfl⟩:=aaD.mp ha
   rw [aaw.mp hb]
   intro k hk
   have e:=hk.uniq hL
   subst e
   obtain ⟨j,hj,zj⟩:=fE u hu
   have Qw:s.getD k 0≠0:=by
    have:=hL.1
    lia
   have f:=qk (u.getD k 0) Qw
   have g:=f.2.1 hL.1
   rw [oM (lst u hu) ls]
   exact⟨⟨j,hj,zj⟩,g,by have:=f.1;have:=hL.1;lia⟩
theorem Eqv.add{n p:Nat}(lst:Len n st)(ls:s.length=n):Eqv n (st++s::os) (st.map (eL.bC p s)++[s]++os):=by
 refine (Eqv.mem fun x=>?_).trans ((Eqv.turn (s:=s) (rs:=st) (os:=os) (fun v=>qt v s p) ls lst).trans (Eqv.mem fun x=>?_))
 ·simp only [aax,aaC]
  constructor
  ·rintro (h|h|h)
   ·exact .inl (.inr h)
   ·exact .inl (.inl h)
   ·exact .inr h
  ·rintro ((h|h)|h)
   ·exact .inr (.inl h)
   ·exact .inl h
   ·exact .inr (.inr h)
 ·show x∈s::st.map (eL.bC p s)++os↔_
  simp only [aax,aaC,not_mem_nil,or_false]
  constructor
  ·rintro ((h|h)|h)
   ·exact .inl (.inr h)
   ·exact .inl (.inl h)
   ·exact .inr h
  ·rintro ((h|h)|h)
   ·exact .inl (.inr h)
   ·exact .inl (.inl h)
   ·exact .inr h
theorem Eqv.app{n:Nat}(h:Eqv n as bs):Eqv n (cs++as) (cs++bs) :=
 ⟨fun r hr=>(aax.mp hr).elim (fun z=>Span.mem (aav _ z)) fun z=>(h.1 r z).UH,fun r hr=>(aax.mp hr).elim (fun z=>Span.mem (aav _ z)) fun z=>(h.2 r z).UH⟩
theorem Eqv.flip{n:Nat}(la:a.length=n):Eqv n (a::rs) (bH a (-1)::rs):=by
 have e:bH (bH a (-1)) (-1)=a:=bo (aF (aF la)) la fun i _=>by rw [bt,bt];lia
 refine⟨fun r hr=>?_,fun r hr=>?_⟩
 ·rcases aaC.mp hr with rfl|hr
  ·have:=Span.neg (rs:=bH r (-1)::rs) (aF la) (Span.mem (.head _))
   rw [e] at this
   exact this
  ·exact Span.mem (aaB _ hr)
 ·rcases aaC.mp hr with rfl|hr
  ·exact Span.neg la (Span.mem (.head _))
  ·exact Span.mem (aaB _ hr)
def r2(p:Nat×Nat):List Int:=[(p.1:Int),(p.2:Int)]
def prd:List (Nat×Nat)->Nat
 | []=>1
 | p::l=>p.2*prd l
def tot:List (Nat×Nat)->Nat
 | []=>0
 | p::l=>p.1*prd l+p.2*tot l
theorem AE(f m:Nat):Nat.gcd m (f % m)=Nat.gcd f m:=by rw [Nat.gcd_comm m,<- Nat.gcd_rec,Nat.gcd_comm]
theorem take_snoc{α:Type}{l:List α}{i:Nat}{x:α}(h:l[i]?=some x):l.take (i+1)=l.take i++[x]:=by
 rw [take_add_one,h];rfl
theorem cK(r:List Int){w i:Nat}(h:i<w):(r.take w).getD i 0=r.getD i 0:=by
 rw [List.getD,List.getD,getElem?_take,if_pos h]
theorem tJ(r:List Int){w i:Nat}(h:w<=i):(r.take w).getD i 0=0:=by
 rw [List.getD,getElem?_take,if_neg aaa]
 rfl
theorem oN{p w:Nat}(hp:p<w):(bC p s v).take w=bC p (s.take w) (v.take w):=by
 simp only [bC,low,sub,bH,qt,List.take_zipWith,map_take,cK _ hp]
theorem bx{v:List Int}{n w:Nat}(h:v.length=n)(hw:w<=n):(v.take w).length=w:=by rw [aaO,h,min_eq_left hw]
def gr(b:Nat):Nat->Nat
 | 0=>b
 | i+1=>4*gr b i+3
def sb(b:Nat):Nat->Nat
 | 0=>0
 | i+1=>sb b i+gr b (i+1)+1
structure PT(p X m k:Nat)(led os:List (List Int)):Prop where
 bd:∀ v∈led++os,bY X v
 hi:∀ v∈led,at' p v<=m
 one:(∀ v∈led,0<v.getD p 0)\/∀ v∈led,v.getD p 0<0
 low:∃ v∈led,at' p v+m<=k
theorem iu{p:Nat}(hv:v∈cq p s rest):∃ u∈rest,bC p s u=v/\v.getD p 0≠0:=by
 obtain ⟨a1,a2⟩:=aaE.mp hv
 obtain ⟨u,hu,e⟩:=aaD.mp a1
 exact⟨u,hu,e,by simpa using a2⟩
theorem FV{p:Nat}(hv:v∈fi p s rest):∃ u∈rest,bC p s u=v/\v.getD p 0=0:=by
 obtain ⟨a1,a2⟩:=aaE.mp hv
 obtain ⟨u,hu,e⟩:=aaD.mp a1
 exact⟨u,hu,e,by simpa using a2⟩
theorem nC{p:Nat}{s:List Int}{rest os:List (List Int)}{P:List Int->Prop}(h:∀ v∈s::rest++os,P v)(k:∀ v∈rest,P (bC p s v)):∀ v∈s::cq p s rest++(os++fi p s rest),P v:=fun v hv=>by
 rcases aax.mp hv with a|a
 ·rcases aaC.mp a with rfl|a
  ·exact h v (by simp)
  ·obtain ⟨u,hu,rfl,_⟩:=iu a
   exact k u hu
 ·rcases aax.mp a with a|a
  ·exact h v (by simp [a])
  ·obtain ⟨u,hu,rfl,_⟩:=FV a
   exact k u hu
theorem xC{n p:Nat}(ls:s.length=n)(lr:Len n rest)(xD:s.getD p 0≠0):(∀ v∈s::cq p s rest,0<v.getD p 0)\/∀ v∈s::cq p s rest,v.getD p 0<0:=by
 rcases Int.lt_or_gt_of_ne xD with z|z
 ·refine .inr fun v hv=>?_
  rcases aaC.mp hv with rfl|a
  ·exact z
  ·obtain ⟨u',Qx,rfl,hn⟩:=iu a
   have:=(qk (u'.getD p 0) xD).2.2 z
   rw [oM (lr u' Qx) ls] at hn ⊢
   lia
 ·refine .inl fun v hv=>?_
  rcases aaC.mp hv with rfl|a
  ·exact z
  ·obtain ⟨u',Qx,rfl,hn⟩:=iu a
   have:=(qk (u'.getD p 0) xD).2.1 z
   rw [oM (lr u' Qx) ls] at hn ⊢
   lia
theorem sD{n p:Nat}(ls:s.length=n)(lr:Len n rest)(xD:s.getD p 0≠0):∀ v∈s::cq p s rest,at' p v<=at' p s:=fun v hv=>by
 rcases aaC.mp hv with rfl|a
 ·exact aah _
 ·obtain ⟨u,hu,rfl,_⟩:=iu a
  exact aai (nB (lr u hu) ls xD)
theorem PT.turn{n p X m k:Nat}(h:PT p X m k (s::rest) os)(ls:s.length=n)(lr:Len n rest)(xD:s.getD p 0≠0)(hs:∀ v∈rest,at' p s<=at' p v):
  ∃ X',(∀ v∈rest,bY X' (bC p s v))/\X<=X'/\X'*at' p s<=X*k/\(cq p s rest=[]\/PT p X' (at' p s) m (s::cq p s rest) (os++fi p s rest)):=by
 have hl:0<at' p s:=by unfold at';lia
 have bs:=h.bd s (by simp)
 have br:∀ v∈rest,bY X v:=fun v hv=>h.bd v (by simp [hv])
 have UJ:∀ v∈rest,Alike (v.getD p 0) (s.getD p 0):=fun v hv=>by
  rcases h.one with z|z
  ·exact .inl ⟨z v (aaB _ hv),z s (.head _)⟩
  ·exact .inr ⟨z v (aaB _ hv),z s (.head _)⟩
 have hq:∀ v∈rest,(qt v s p).natAbs*at' p s+at' p (bC p s v)=at' p v:=fun v hv=>by
  have:=Qu (UJ v hv) (hs v hv)
  unfold at'
  rw [oM (lr v hv) ls]
  exact this
 have hm:∀ v∈rest,at' p v<=m:=fun v hv=>h.hi v (aaB _ hv)
 have hQ:∀ v∈rest,(qt v s p).natAbs<=m / at' p s:=fun v hv=>by
  rw [Nat.le_div_iff_mul_le hl]
  have:=hq v hv
  have:=hm v hv
  lia
 have hk:at' p s+m<=k:=by
  obtain ⟨v,hv,e⟩:=h.low
  rcases aaC.mp hv with rfl|hv
  ·exact e
  ·have:=hs v hv
   lia
 have hb:∀ v∈rest,bY (X+X*(m / at' p s)) (bC p s v):=fun v hv=>IW (lr v hv) ls (br v hv) bs (hQ v hv)
 refine⟨X+X*(m / at' p s),hb,le_add_right _ _,?_,?_⟩
 ·have e1:X*(m / at' p s)*at' p s<=X*m:=by rw [mul_assoc];exact mul_le_mul_left _ (Nat.div_mul_le_self _ _)
  have e2:X*(at' p s+m)<=X*k:=mul_le_mul_left _ hk
  rw [mul_add] at e2
  rw [add_mul]
  lia
 ·by_cases hf:cq p s rest=[]
  ·exact .inl hf
  ·refine .inr ⟨nC (fun v hv=>(h.bd v hv).mono (le_add_right _ _)) hb,sD ls lr xD,xC ls lr xD,?_⟩
   obtain ⟨w,hw⟩:=List.exists_mem_of_ne_nil _ hf
   refine⟨w,aaB _ hw,?_⟩
   obtain ⟨u,hu,rfl,hn⟩:=iu hw
   have h1:=hq u hu
   have h2:=hm u hu
   have h3:=nB (lr u hu) ls xD
   have h4:=hs u hu
   have h5:1<=(qt u s p).natAbs:=by
    rcases eq_zero_or_pos (qt u s p).natAbs with z|z
    ·rw [z,Nat.zero_mul] at h1
     lia
    ·exact z
   have h6:1*at' p s<=(qt u s p).natAbs*at' p s:=aaH _ h5
   lia
theorem PT.first{n p M A:Nat}(ls:s.length=n)(lr:Len n rest)(iD:∀ v∈s::rest++os,bY M v)(hA:∀ v∈s::rest,at' p v<=A)(xD:s.getD p 0≠0)(hs:∀ v∈rest,at' p s<=at' p v):
  ∃ X',(∀ v∈rest,bY X' (bC p s v))/\M<=X'/\X'*at' p s<=3*(M*A)/\(cq p s rest=[]\/PT p X' (at' p s) (2*A) (s::cq p s rest) (os++fi p s rest)):=by
 have hl:0<at' p s:=by unfold at';lia
 have bs:=iD s (by simp)
 have br:∀ v∈rest,bY M v:=fun v hv=>iD v (by simp [hv])
 have lA:at' p s<=A:=hA s (.head _)
 have hQ:∀ v∈rest,(qt v s p).natAbs<=2*A / at' p s:=fun v hv=>by
  rw [Nat.le_div_iff_mul_le hl]
  have a:=UI xD (hs v hv)
  have b:=hA v (aaB _ hv)
  have a':(qt v s p).natAbs*at' p s<=2*at' p v:=a
  lia
 have hb:∀ v∈rest,bY (M+M*(2*A / at' p s)) (bC p s v):=fun v hv=>IW (lr v hv) ls (br v hv) bs (hQ v hv)
 refine⟨M+M*(2*A / at' p s),hb,le_add_right _ _,?_,?_⟩
 ·have e1:M*(2*A / at' p s)*at' p s<=M*(2*A):=by rw [mul_assoc];exact mul_le_mul_left _ (Nat.div_mul_le_self _ _)
  have e2:M*at' p s<=M*A:=mul_le_mul_left _ lA
  have e3:M*(2*A)=2*(M*A):=Nat.mul_left_comm _ _ _
  rw [add_mul]
  lia
 ·by_cases hf:cq p s rest=[]
  ·exact .inl hf
  ·refine .inr ⟨nC (fun v hv=>(iD v hv).mono (le_add_right _ _)) hb,sD ls lr xD,xC ls lr xD,?_⟩
   obtain ⟨w,hw⟩:=List.exists_mem_of_ne_nil _ hf
   refine⟨w,aaB _ hw,?_⟩
   have:=sD ls lr xD w (aaB _ hw)
   lia
def PJ(n p M A:Nat)(led os:List (List Int)):Prop :=
 (∀ v∈led++os,v.length=n)/\(∀ v∈led,v.getD p 0≠0)/\(∀ v∈os,v.getD p 0=0)/\(∀ v∈led,at' p v<=A) /\
  ((∀ v∈led++os,bY M v)\/(∃ X m k,PT p X m k led os/\0<m/\0<k/\X*m*k<=6*(M*(A*A)))\/(led.length<=1/\∀ v∈led++os,bY (6*(M*(A*A))) v))
theorem PJ.bd{n p M A:Nat}(hA:0<A)(h:PJ n p M A led os):∀ v∈led++os,bY (6*(M*(A*A))) v:=by
 obtain ⟨_,_,_,_,h|⟨X,m,k,h,hm,hk,hN⟩|h⟩:=h
 ·refine fun v hv=>(h v hv).mono ?_
  have:M*1<=M*(A*A):=mul_le_mul_left _ (mul_pos hA hA)
  lia
 ·refine fun v hv=>(h.bd v hv).mono ?_
  have h1:X*1<=X*(m*k):=mul_le_mul_left _ (mul_pos hm hk)
  rw [<- mul_assoc] at h1
  lia
 ·exact h.2
theorem PJ.turn{n p M A:Nat}(Qz:0<A)(h:PJ n p M A led os)(e:(s::rest).Perm led)(hr:rest≠[])(hs:∀ v∈rest,at' p s<=at' p v):
  PJ n p M A (s::cq p s rest) (os++fi p s rest)/\mz p (s::cq p s rest)<mz p led/\Eqv n (led++os) (s::cq p s rest++(os++fi p s rest)):=by
 have hBd:=h.bd Qz
 obtain ⟨h1,h2,h3,hA,h4⟩:=h
 have mem:∀ v,v∈s::rest↔v∈led:=fun v=>e.mem_iff
 have MD:∀ v,v∈s::rest++os->v∈led++os:=fun v hv=>(aax.mp hv).elim (fun z=>aav _ ((mem v).mp z)) fun z=>aau _ z
 have QA:∀ v∈s::rest++os,v.length=n:=fun v hv=>h1 v (MD v hv)
 have IZ:∀ v∈s::rest,v.getD p 0≠0:=fun v hv=>h2 v ((mem v).mp hv)
 have hA':∀ v∈s::rest,at' p v<=A:=fun v hv=>hA v ((mem v).mp hv)
 have ls:=QA s (by simp)
 have lr:Len n rest:=fun v hv=>QA v (by simp [hv])
 have xD:=IZ s (.head _)
 have hl:0<at' p s:=by unfold at';lia
 have fin:∀ {X':Nat},(∀ v∈rest,bY X' (bC p s v))->X'<=6*(M*(A*A))->cq p s rest=[]->(s::cq p s rest).length<=1/\∀ v∈s::cq p s rest++(os++fi p s rest),bY (6*(M*(A*A))) v:=fun {X'} b c z =>
  ⟨by rw [z];exact aah _,nC (fun v hv=>hBd v (MD v hv)) fun v hv=>(b v hv).mono c⟩
 refine⟨⟨nC QA fun v hv=>fI (lr v hv) ls,fun v hv=>?_,fun v hv=>?_,fun v hv=>aag (sD ls lr xD v hv) (hA' s (.head _)),?_⟩,?_,(Eqv.mem fun x=>?_).trans (IY ls lr)⟩
 ·rcases aaC.mp hv with rfl|a
  ·exact xD
  ·simpa using (aaE.mp a).2
 ·rcases aax.mp hv with a|a
  ·exact h3 v a
  ·simpa using (aaE.mp a).2
 ·rcases h4 with h4|⟨X,m,k,h4,hm,hk,hN⟩|h4
  ·obtain ⟨X',b1,b2,b3,b4⟩:=PT.first ls lr (fun v hv=>h4 v (MD v hv)) hA' xD hs
   rcases b4 with z|z
   ·refine .inr (.inr (fin b1 ?_ z))
    have e1:X'*1<=X'*at' p s:=mul_le_mul_left _ hl
    have e2:M*A*1<=M*A*A:=mul_le_mul_left _ Qz
    rw [mul_assoc M A A] at e2
    lia
   ·refine .inr (.inl ⟨X',_,_,z,hl,aaa,?_⟩)
    calc X'*at' p s*(2*A)<=3*(M*A)*(2*A):=aaH _ b3
     _=6*(M*(A*A)):=by rw [show 3*(M*A)*(2*A)=(3*2)*(M*(A*A)) by ac_rfl]
  ·have h5:PT p X m k (s::rest) os:=⟨fun v hv=>h4.bd v (MD v hv),fun v hv=>h4.hi v ((mem v).mp hv),h4.one.imp (fun z v hv=>z v ((mem v).mp hv)) fun z v hv=>z v ((mem v).mp hv),by
    obtain ⟨v,hv,z⟩:=h4.low
    exact⟨v,(mem v).mpr hv,z⟩⟩
   obtain ⟨X',b1,b2,b3,b4⟩:=h5.turn ls lr xD hs
   rcases b4 with z|z
   ·refine .inr (.inr (fin b1 ?_ z))
    have e1:X'*1<=X'*at' p s:=mul_le_mul_left _ hl
    have e2:X*k*1<=X*k*m:=mul_le_mul_left _ hm
    rw [show X*k*m=X*m*k by ac_rfl] at e2
    lia
   ·refine .inr (.inl ⟨X',_,_,z,hl,hm,?_⟩)
    calc X'*at' p s*m<=X*k*m:=aaH _ b3
     _=X*m*k:=by ac_rfl
     _<=_:=hN
  ·exact absurd h4.1 (by have:=e.length_eq;rw [length_cons] at this;cases rest with|nil=>exact absurd rfl hr|cons x y=>simp at this;lia)
 ·have hz:mz p (rest.map (bC p s))<mz p rest:=EG hr hs fun v hv=>nB (lr v hv) ls xD
  have hf:mz p (cq p s rest)<=mz p (rest.map (bC p s)):=xB p _ _
  have hp:mz p led=mz p (s::rest):=by
   unfold mz
   exact ((e.map (at' p)).sum_nat).symm
  rw [hp]
  show (at' p s::(cq p s rest).map (at' p)).sum<(at' p s::rest.map (at' p)).sum
  rw [sum_cons,sum_cons]
  unfold mz at hz hf
  lia
 ·rw [aax,aax,<- mem x]
def gs(b:Nat):Nat->Nat
 | 0=>b
 | i+1=>3*gs b i+3
def ss(b:Nat):Nat->Nat
 | 0=>0
 | i+1=>ss b i+gs b (i+1)+1
theorem kG(b i:Nat):6*(2 ^ gs b i*(2 ^ gs b i*2 ^ gs b i))<2 ^ gs b (i+1):=by
 have e:(2:Nat) ^ gs b (i+1)=8*(2 ^ gs b i*(2 ^ gs b i*2 ^ gs b i)):=by
  rw [gs,pow_add,show 3*gs b i=gs b i+(gs b i+gs b i) by lia,pow_add,pow_add]
  lia
 have h:0<(2:Nat) ^ gs b i:=aaZ _
 have h2:=mul_pos h (mul_pos h h)
 rw [e]
 lia
structure SJ(n w b:Nat)(rs:List (List Int))(i:Nat)(st lf:List (List Int)):Prop where
 sf:SF (st.map (List.take w))
 ld:∀ r∈st,∃ k,w - i<=k/\cG (r.take w) k
 lst:Len n st
 UK:Len n lf
 z:∀ v∈lf,∀ j,w - i<=j->j<w->v.getD j 0=0
 e:Eqv n rs (st++lf)
 bl:∀ v∈lf,bY (2 ^ gs b i) v
 bs:∀ v∈st,bY (2 ^ ss b i) v
 lb:∀ r∈st,∀ k,cG (r.take w) k->(r.getD k 0).natAbs<=2 ^ gs b (w - 1 - k)
 c1:lf.length<=rs.length
 c2:st.length<=i
theorem SJ.start{n w b:Nat}(hl:Len n rs)(hb:∀ v∈rs,bY (2 ^ b) v):SJ n w b rs 0 [] rs :=
 ⟨⟨(fun _ z=>nomatch z),List.Pairwise.nil⟩,(fun _ z=>nomatch z),(fun _ z=>nomatch z),hl,(fun v _ j h1 h2=>by lia),Eqv.refl,hb,(fun _ z=>nomatch z),(fun _ z=>nomatch z),aah _,aah _⟩
theorem SJ.none{n w b i p:Nat}(h:SJ n w b rs i st lf)(hp:p+i+1=w)(he:Eqv n lf os)(h0:∀ v∈os,v.getD p 0=0)(hl:Len n os)(hb:∀ v∈os,bY (6*(2 ^ gs b i*(2 ^ gs b i*2 ^ gs b i))) v)(hc:os.length<=lf.length):SJ n w b rs (i+1) st os:=by
 refine⟨h.sf,fun r hr=>?_,h.lst,hl,fun v hv j h1 h2=>?_,h.e.trans he.app,fun v hv=>(hb v hv).mono (aai (kG b i)),fun v hv=>(h.bs v hv).mono (aaF aa8 (by rw [ss];lia)),h.lb,aag hc h.c1,Nat.le_succ_of_le h.c2⟩
 ·obtain ⟨k,h1,h2⟩:=h.ld r hr
  exact⟨k,aaa,h2⟩
 ·by_cases e:j=p
  ·rw [e];exact h0 v hv
  ·exact Span.Xi h.UK (he.2 v hv) fun r hr=>h.z r hr j aaa h2
theorem SJ.one{n w b i p:Nat}(h:SJ n w b rs i st lf)(hp:p+i+1=w)(hw:w<=n)(he:Eqv n lf (s::os))(hs:0<s.getD p 0)(h0:∀ v∈os,v.getD p 0=0)(hl:Len n (s::os))(hb:∀ v∈s::os,bY (6*(2 ^ gs b i*(2 ^ gs b i*2 ^ gs b i))) v)(hc:os.length+1<=lf.length)(AF:at' p s<=2 ^ gs b i):SJ n w b rs (i+1) (st.map (bC p s)++[s]) os:=by
 have ls:s.length=n:=hl s (.head _)
 have lo:Len n os:=fun v hv=>hl v (.tail _ hv)
 have za:∀ v∈s::os,∀ j,w - i<=j->j<w->v.getD j 0=0:=fun v hv j h1 h2=>Span.Xi h.UK (he.2 v hv) fun r hr=>h.z r hr j h1 h2
 have hL:cG (s.take w) p:=⟨by rw [cK _ aaa];exact hs,fun j hj=>by
  by_cases e:j<w
  ·rw [cK _ e];exact za s (.head _) j aaa e
  ·exact tJ _ aaa⟩
 have lt:Len w (st.map (List.take w)):=fun r hr=>by
  obtain ⟨v,hv,rfl⟩:=aaD.mp hr
  exact bx (h.lst v hv) hw
 have fE:∀ r∈st.map (List.take w),∃ k,p<k/\cG r k:=fun r hr=>by
  obtain ⟨v,hv,rfl⟩:=aaD.mp hr
  obtain ⟨k,h1,h2⟩:=h.ld v hv
  exact⟨k,aaa,h2⟩
 have em:(st.map (bC p s)++[s]).map (List.take w)=(st.map (List.take w)).map (bC p (s.take w))++[s.take w]:=by
  rw [aaR,aaS,aaS]
  congr 1
  exact aaT fun v _=>oN aaa
 have hS:=SF.add h.sf fE lt (bx ls hw) hL
 refine⟨by rw [em];exact hS.1,fun r hr=>?_,fun r hr=>?_,lo,fun v hv j h1 h2=>?_,?_,fun v hv=>(hb v (.tail _ hv)).mono (aai (kG b i)),fun v hv=>?_,fun v hv k hk=>?_,?_,?_⟩
 ·rcases aax.mp hr with z|z
  ·obtain ⟨v,hv,rfl⟩:=aaD.mp z
   obtain ⟨k,h1,h2⟩:=h.ld v hv
   refine⟨k,aaa,?_⟩
   rw [oN aaa]
   exact (cG.bC (bx (h.lst v hv) hw) (bx ls hw) hL aaa).mpr h2
  ·rw [aaw.mp z]
   exact⟨p,aaa,hL⟩
 ·rcases aax.mp hr with z|z
  ·obtain ⟨v,hv,rfl⟩:=aaD.mp z
   exact fI (h.lst v hv) ls
  ·rw [aaw.mp z];exact ls
 ·by_cases e:j=p
  ·rw [e];exact h0 v hv
  ·exact za v (.tail _ hv) j aaa h2
 ·exact (h.e.trans he.app).trans (Eqv.add h.lst ls)
 ·have bS:=(hb s (.head _)).mono (aai (kG b i))
  rcases aax.mp hv with z|z
  ·obtain ⟨u,hu,rfl⟩:=aaD.mp z
   refine (yv (h.lst u hu) ls aaa (h.bs u hu) bS).mono ?_
   have h1:0<(2:Nat) ^ ss b i:=aaZ _
   have h2:0<(2:Nat) ^ gs b (i+1):=aaZ _
   have h3:(2:Nat) ^ ss b i<=2 ^ gs b (i+1)*2 ^ ss b i:=le_mul_of_pos_left _ h2
   rw [ss,pow_add,pow_add,Nat.mul_comm (2 ^ ss b i)]
   lia
  ·rw [aaw.mp z]
   exact bS.mono (aaF aa8 (by rw [ss];lia))
 ·rcases aax.mp hv with z|z
  ·obtain ⟨u,hu,rfl⟩:=aaD.mp z
   obtain ⟨k',h1,h2⟩:=h.ld u hu
   have h3:=(cG.bC (bx (h.lst u hu) hw) (bx ls hw) hL (show p<k' by lia)).mpr h2
   rw [<- oN aaa] at h3
   have e:=hk.uniq h3
   subst e
   have hkw:k<w:=by
    have:=hk.1
    by_cases c:k<w
    ·exact c
    ·rw [tJ _ aaa] at this
     exact absurd this aa8
   rw [dD (h.lst u hu) ls (za s (.head _) k aaa hkw)]
   exact h.lb u hu k h2
  ·rw [aaw.mp z] at hk ⊢
   have e:=hk.uniq hL
   rw [e,show w - 1 - p=i by lia]
   exact AF
 ·have:=h.c1
  lia
 ·have:=h.c2
  rw [aaA,aaz]
  simp
  exact this
theorem SJ.all{n b:Nat}(h:SJ n n b rs n st lf):SF st/\Eqv n rs st:=by
 have e:st.map (List.take n)=st:=by
  rw [show st=st.map id by simp,aaS]
  exact aaT fun v hv=>aaU (le_of_eq (h.lst v hv))
 have z:∀ v∈lf,v=cz n:=fun v hv=>bo (h.UK v hv) (aI n) fun i hi=>by rw [ba];exact h.z v hv i aaa hi
 refine⟨by rw [<- e];exact h.sf,h.e.trans ⟨fun r hr=>?_,fun r hr=>Span.mem (aav _ hr)⟩⟩
 rcases aax.mp hr with y|y
 ·exact Span.mem y
 ·rw [z r y];exact Span.zero
def dj(i:Nat):List (List Int)->List Int->Int
 | r::rs,p::ps=>p*r.getD i 0+dj i rs ps
 | _,_=>0
theorem AG(i:Nat)(cs:List (List Int))(qs:List Int):∀ (as:List (List Int)) (ps:List Int),as.length=ps.length->dj i (as++cs) (ps++qs)=dj i as ps+dj i cs qs
 | [],[],_=>by simp [dj]
 | a::as,p::ps,h=>by
  simp only [cons_append,dj]
  rw [AG i cs qs as ps (by simpa using h)]
  lia
theorem kH(i:Nat):∀ (rs:List (List Int)) (n:Nat),dj i rs (cz n)=0
 | [],n=>by simp only [dj]
 | _::_,0=>by simp only [cz,List.replicate_zero,dj]
 | r::rs,n+1=>by
  show 0*r.getD i 0+dj i rs (cz n)=0
  rw [kH i rs n]
  lia
theorem AH(i:Nat):∀ (rs:List (List Int)) (ps qs:List Int),ps.length=rs.length->qs.length=rs.length->dj i rs (sub ps qs)=dj i rs ps - dj i rs qs
 | [],ps,qs,_,_=>by simp only [dj];lia
 | r::rs,p::ps,q::qs,h1,h2=>by
  show (p - q)*r.getD i 0+dj i rs (sub ps qs)=p*r.getD i 0+dj i rs ps - (q*r.getD i 0+dj i rs qs)
  rw [AH i rs ps qs (by simpa using h1) (by simpa using h2),Int.sub_mul]
  lia
def bF(j n:Nat):List Int:=(List.range n).map fun i=>if i=j then 1 else 0
theorem bD(j n:Nat):(bF j n).length=n:=by simp [bF]
theorem bN{j n i:Nat}(h:i<n):(bF j n).getD i 0=if i=j then 1 else 0:=by
 rw [bF,List.getD,aaQ,List.getElem?_range h]
 rfl
theorem AI{j n:Nat}(h:j<n):bF j n=cz j++1::cz (n - j - 1):=by
 refine bo (bD j n) (by simp [cz];lia) fun i hi=>?_
 rw [bN hi]
 rcases (show i<j\/i=j\/j<i by lia) with e|e|e
 ·rw [if_neg aaa,List.getD,aaJ (by simp [cz];exact e)]
  exact (ba j i).symm
 ·rw [if_pos e,List.getD,aaK (by simp [cz];lia)]
  simp [cz,e]
 ·rw [if_neg aaa,List.getD,aaK (by simp [cz];lia)]
  have e2:i - (cz j).length=(i - j - 1)+1:=by simp [cz];lia
  rw [e2,List.getElem?_cons_succ]
  exact (ba _ _).symm
theorem FW{i j:Nat}(h:rs[j]?=some r):dj i rs (bF j rs.length)=r.getD i 0:=by
 obtain ⟨h1,h2⟩:=aad.mp h
 have e:rs=rs.take j++r::rs.drop (j+1):=by
  rw [<- h2,<- List.drop_eq_getElem_cons h1,List.take_append_drop]
 rw [AI h1]
 generalize rs.length - j - 1=k
 rw [e,AG _ _ _ _ _ (by simp [cz];lia),kH]
 show 0+(1*r.getD i 0+dj i (rs.drop (j+1)) (cz k))=r.getD i 0
 rw [kH]
 lia
def marked(rs:List (List Int)):List (List Int):=rs.mapIdx fun i r=>r++bF i rs.length
def Mk(w:Nat)(rs:List (List Int))(v:List Int):Prop:=∀ i,i<w->v.getD i 0=dj i rs (v.drop w)
theorem lZ(h:v∈marked rs):∃ j r,rs[j]?=some r/\v=r++bF j rs.length:=by
 obtain ⟨j,hj,e⟩:=List.mem_mapIdx.mp h
 exact⟨j,rs[j],aat hj,e.symm⟩
theorem md{w:Nat}(h:Len w rs):Len (w+rs.length) (marked rs):=fun v hv=>by
 obtain ⟨j,r,h1,rfl⟩:=lZ hv
 rw [aaA,bD,h r (aay h1)]
theorem Ja(a b:Nat):(cz (a+b)).drop a=cz b:=by simp [cz]
theorem tK{n w:Nat}(h:w<=n):(cz n).take w=cz w:=by simp [cz,min_eq_left h]
theorem AJ(a b:List Int)(w:Nat):(sub a b).drop w=sub (a.drop w) (b.drop w):=by simp only [sub,List.drop_zipWith]
theorem nD(a b:List Int)(w:Nat):(sub a b).take w=sub (a.take w) (b.take w):=by simp only [sub,List.take_zipWith]
theorem Mk.sub{w:Nat}(la:a.length=w+rs.length)(lb:b.length=w+rs.length)(ha:Mk w rs a)(hb:Mk w rs b):Mk w rs (eL.sub a b):=fun i hi=>by
 rw [bB la lb,ha i hi,hb i hi,AJ,AH]
 ·rw [length_drop,la];lia
 ·rw [length_drop,lb];lia
theorem Mk.span{w:Nat}(hl:Len w rs)(h:Span (w+rs.length) (marked rs) v):Mk w rs v:=by
 refine (h (fun v=>v.length=w+rs.length/\Mk w rs v) ⟨⟨aI _,fun i hi=>?_⟩,fun a b la lb ha hb=>⟨sub_len la lb,Mk.sub la lb ha.2 hb.2⟩⟩ fun v hv=>⟨md hl v hv,fun i hi=>?_⟩).2
 ·rw [ba,Ja,kH]
 ·obtain ⟨j,r,h1,rfl⟩:=lZ hv
  have lr:=hl r (aay h1)
  rw [List.drop_append_of_le_length aaa,drop_of_length_le aaa,nil_append,FW h1,List.getD,List.getD,aaJ aaa]
theorem Span.take{n w:Nat}(hw:w<=n)(h:Span n as v):Span w (as.map (List.take w)) (v.take w):=by
 refine h (fun v=>Span w (as.map (List.take w)) (v.take w)) ⟨?_,fun a b la lb ha hb=>?_⟩ fun r hr=>Span.mem (aaD.mpr ⟨r,hr,rfl⟩)
 ·show Span w _ ((cz n).take w)
  rw [tK hw];exact Span.zero
 ·show Span w _ ((eL.sub a b).take w)
  rw [nD]
  exact Span.sub (bx la hw) (bx lb hw) ha hb
theorem Eqv.take{n w:Nat}(hw:w<=n)(h:Eqv n as bs):Eqv w (as.map (List.take w)) (bs.map (List.take w)):=by
 refine⟨fun r hr=>?_,fun r hr=>?_⟩
 ·obtain ⟨u,hu,rfl⟩:=aaD.mp hr
  exact (h.1 u hu).take hw
 ·obtain ⟨u,hu,rfl⟩:=aaD.mp hr
  exact (h.2 u hu).take hw
theorem AK{w:Nat}(h:Len w rs):(marked rs).map (List.take w)=rs:=by
 apply ext_getElem
 ·simp [marked]
 ·intro i h1 h2
  simp only [marked,getElem_map,List.getElem_mapIdx]
  have:=h rs[i] (aa5 h2)
  rw [List.take_append_of_le_length aaa,aaU aaa]
theorem SJ.front{n w b:Nat}(hw:w<=n)(h:SJ n w b ms w st lf):Eqv w (ms.map (List.take w)) (st.map (List.take w)):=by
 refine (h.e.take hw).trans ⟨fun r hr=>?_,fun r hr=>?_⟩
 ·rw [aaR] at hr
  rcases aax.mp hr with y|y
  ·exact Span.mem y
  ·obtain ⟨v,hv,rfl⟩:=aaD.mp y
   rw [show v.take w=cz w from bo (bx (h.UK v hv) hw) (aI w) fun i hi=>by rw [ba,cK _ hi];exact h.z v hv i aaa hi]
   exact Span.zero
 ·rw [aaR]
  exact Span.mem (aav _ hr)
theorem SJ.made{w b:Nat}(hl:Len w rs)(h:SJ (w+rs.length) w b (marked rs) w st lf):SF (st.map (List.take w))/\Eqv w rs (st.map (List.take w))/\∀ v∈st,Mk w rs v:=by
 have hf:=h.front (le_add_right _ _)
 rw [AK hl] at hf
 exact⟨h.sf,hf,fun v hv=>Mk.span hl (h.e.2 v (aav _ hv))⟩
theorem jC(j n b:Nat):bY (2 ^ b) (bF j n):=fun i=>by
 by_cases h:i<n
 ·rw [bN h]
  have:0<2 ^ b:=aaZ _
  split <;> simp <;> lia
 ·rw [List.getD,getElem?_eq_none (by rw [bD];lia)]
  exact aa0 _
theorem tL{M:Nat}(hr:bY M r)(hq:bY M q):bY M (r++q):=fun i=>by
 rw [List.getD,List.getElem?_append]
 split
 ·exact hr i
 ·exact hq _
theorem xE{b:Nat}(h:∀ r∈rs,bY (2 ^ b) r):∀ v∈marked rs,bY (2 ^ b) v:=fun v hv=>by
 obtain ⟨j,r,h1,rfl⟩:=lZ hv
 exact tL (h r (aay h1)) (jC _ _ _)
structure LB(n w:Nat)(st:List (List Int))(i:Nat)(u v:List Int):Prop where
 len:v.length=n
 made:Span n st (sub u v)
 small:∀ j s k,j<i->st[j]?=some s->cG (s.take w) k->0<=v.getD k 0/\v.getD k 0<s.getD k 0
theorem FX{n:Nat}(h:u.length=n):sub u u=cz n:=bo (sub_len h h) (aI n) fun i _=>by rw [bB h h,ba];lia
theorem LB.start{n w:Nat}(h:u.length=n):LB n w st 0 u u:=⟨h,by rw [FX h];exact Span.zero,fun j s k hj=>by lia⟩
theorem oO{s:List Int}{w k:Nat}(h:cG (s.take w) k):k<w:=by
 have:=h.1
 by_cases c:k<w
 ·exact c
 ·rw [tJ _ aaa] at this
  exact absurd this aa8
theorem LB.step{n w i k:Nat}{st:List (List Int)}{s u v:List Int}(h:LB n w st i u v)(lu:u.length=n)(hs:st[i]?=some s)(ls:s.length=n)(sf:SF (st.map (List.take w)))(hk:cG (s.take w) k):LB n w st (i+1) u (bC k s v):=by
 have kw:=oO hk
 have oQ:0<s.getD k 0:=by have:=hk.1;rwa [cK _ kw] at this
 have iK:s∈st:=aay hs
 refine⟨fI h.len ls,?_,fun j a k' hj ha oJ=>?_⟩
 ·have e:sub u (bC k s v)=low (sub u v) s (-(qt v s k)):=bo (sub_len lu (fI h.len ls)) (bO (sub_len lu h.len) ls) fun i _=>by
   rw [bB lu (fI h.len ls),bC,cm h.len ls,cm (sub_len lu h.len) ls,bB lu h.len,mul_neg]
   lia
  rw [e]
  exact Span.low (sub_len lu h.len) ls h.made (Span.mem iK) _
 ·by_cases c:j=i
  ·subst c
   rw [hs] at ha
   cases ha
   have e:=oJ.uniq hk
   subst e
   rw [oM h.len ls]
   have:=qk (v.getD k' 0) (show s.getD k' 0≠0 by lia)
   have h2:=this.2.1 oQ
   lia
  ·have Xl:j<i:=by lia
   have hb:YM (a.take w) (s.take w):=by
    have h1:(st.map (List.take w))[j]?=some (a.take w):=by rw [aaQ,ha];rfl
    have h2:(st.map (List.take w))[i]?=some (s.take w):=by rw [aaQ,hs];rfl
    obtain ⟨p1,e1⟩:=aad.mp h1
    obtain ⟨p2,e2⟩:=aad.mp h2
    have:=List.pairwise_iff_getElem.mp sf.2 j i p1 p2 Xl
    rw [e1,e2] at this
    exact this
   obtain ⟨⟨k2,h1,h2⟩,_⟩:=hb k hk
   have e:=oJ.uniq h2
   subst e
   have hz:s.getD k' 0=0:=by
    have:=hk.2 k' h1
    rwa [cK _ (oO oJ)] at this
   rw [dD h.len ls hz]
   exact h.small j a k' Xl ha oJ
theorem xF{n:Nat}(sf:SF st)(hl:Len n st)(lu:u.length=n)(la:a.length=n)(lb:b.length=n)(ha:Span n st (sub u a))(hb:Span n st (sub u b))(sa:∀ s∈st,∀ k,cG s k->0<=a.getD k 0/\a.getD k 0<s.getD k 0)(sb':∀ s∈st,∀ k,cG s k->0<=b.getD k 0/\b.getD k 0<s.getD k 0):a=b:=by
 have e:sub b a=sub (sub u a) (sub u b):=bo (sub_len lb la) (sub_len (sub_len lu la) (sub_len lu lb)) fun i _=>by
  rw [bB lb la,bB (sub_len lu la) (sub_len lu lb),bB lu la,bB lu lb]
  lia
 have h0:sub b a=cz n:=SF.small sf hl (by rw [e];exact Span.sub (sub_len lu la) (sub_len lu lb) ha hb) fun r hr k hk=>by
  have h1:=sa r hr k hk
  have h2:=sb' r hr k hk
  rw [bB lb la]
  lia
 refine bo la lb fun i _=>?_
 have:=bB lb la i
 rw [h0,ba] at this
 lia
theorem LB.rest{w b:Nat}(hl:Len w rs)(lr:row.length=w)(hI:SJ (w+rs.length) w b (marked rs) w st lf)(h:LB (w+rs.length) w st st.length (row++cz rs.length) v):
  (v.take w).length=w/\Span w (st.map (List.take w)) (sub row (v.take w))/\(∀ s∈st.map (List.take w),∀ k,cG s k->0<=(v.take w).getD k 0/\(v.take w).getD k 0<s.getD k 0)/\∀ i,i<w->row.getD i 0 - (v.take w).getD i 0=dj i rs ((v.drop w).map fun x=>-x):=by
 have lu:(row++cz rs.length).length=w+rs.length:=by rw [aaA,lr,aI]
 have et:(row++cz rs.length).take w=row:=by rw [List.take_append_of_le_length aaa,aaU aaa]
 refine⟨bx h.len (le_add_right _ _),?_,fun s hs k hk=>?_,fun i hi=>?_⟩
 ·have:=h.made.take (w:=w) (le_add_right _ _)
  rw [nD,et] at this
  exact this
 ·obtain ⟨u,hu,rfl⟩:=aaD.mp hs
  obtain ⟨j,hj,e⟩:=aa6 hu
  have kw:=oO hk
  rw [cK _ kw,cK _ kw]
  exact h.small j u k hj (by rw [aat hj,e]) hk
 ·have hm:Span (w+rs.length) (marked rs) (sub (row++cz rs.length) v):=h.made.of fun r hr=>hI.e.2 r (aav _ hr)
  have:=Mk.span hl hm i hi
  rw [bB lu h.len,AJ] at this
  have e1:(row++cz rs.length).drop w=cz rs.length:=by rw [List.drop_append_of_le_length aaa,drop_of_length_le aaa,nil_append]
  have e2:sub (cz rs.length) (v.drop w)=(v.drop w).map fun x=>-x:=by
   have lv:(v.drop w).length=rs.length:=by rw [length_drop,h.len];lia
   refine bo (sub_len (aI _) lv) (by rw [aaz];exact lv) fun j hj=>?_
   rw [bB (aI _) lv,ba,List.getD,List.getD,aaQ]
   match (v.drop w)[j]? with
   | none=>rfl
   | some x=>simp
  rw [e1,e2] at this
  rw [cK _ hi,<- this,List.getD,List.getD,List.getD,aaJ aaa]
def dt(a b:List Int):Int:=(List.zipWith (·*·) a b).sum
theorem CN(a:List Int):dt a []=0:=by simp [dt]
theorem EH:∀ (a ws:List Int) (x:Int),ws.length<a.length->dt a (ws++[x])=dt a ws+a.getD ws.length 0*x
 | a::as,[],x,_=>by simp [dt]
 | a::as,w::ws,x,h=>by
  have:=EH as ws x (by simpa using h)
  unfold dt at this ⊢
  simp only [cons_append,zipWith_cons_cons,sum_cons,length_cons,List.getD_cons_succ]
  rw [this]
  lia
theorem iL:∀ (a b:List Int),dt a b=dt b a
 | [],[]=>rfl
 | [],_::_=>rfl
 | _::_,[]=>rfl
 | x::a,y::b=>by
  have h:=iL a b
  unfold dt at h ⊢
  simp only [zipWith_cons_cons,sum_cons]
  rw [h,Int.mul_comm]
theorem Jb{n:Nat}:∀ {a b c:List Int},a.length=n->b.length=n->c.length=n->(∀ i,i<n->a.getD i 0=0\/b.getD i 0=c.getD i 0)->dt a b=dt a c:=by
 induction n with
 | zero=>intro a b c ha hb hc _;rw [length_eq_zero_iff.mp ha];simp [dt]
 | succ n ih =>
  intro a b c ha hb hc h
  match a,b,c,ha,hb,hc with
  | x::a,y::b,z::c,ha,hb,hc =>
   have e:=ih (a:=a) (b:=b) (c:=c) (by simpa using ha) (by simpa using hb) (by simpa using hc) fun i hi=>by
    have:=h (i+1) aaa
    simpa using this
   have h0:=h 0 aaa
   unfold dt at e ⊢
   simp only [zipWith_cons_cons,sum_cons]
   rw [e]
   rcases h0 with h0|h0
   ·have:x=0:=by simpa using h0
    rw [this];simp
   ·have:y=z:=by simpa using h0
    rw [this]
theorem iM{n:Nat}:∀ {a b c:List Int},a.length=n->b.length=n->c.length=n->dt (sub a b) c=dt a c - dt b c:=by
 induction n with
 | zero=>intro a b c ha hb hc;rw [length_eq_zero_iff.mp ha,length_eq_zero_iff.mp hb];simp [dt,sub]
 | succ n ih =>
  intro a b c ha hb hc
  match a,b,c,ha,hb,hc with
  | x::a,y::b,z::c,ha,hb,hc =>
   have e:=ih (a:=a) (b:=b) (c:=c) (by simpa using ha) (by simpa using hb) (by simpa using hc)
   unfold dt sub at e ⊢
   simp only [zipWith_cons_cons,sum_cons]
   rw [e,Int.sub_mul]
   lia
theorem jD(n:Nat)(c:List Int):dt (cz n) c=0:=by
 induction n generalizing c with
 | zero=>simp [dt,cz]
 | succ n ih =>
  cases c with
  | nil=>exact CN _
  | cons x c =>
   have:=ih c
   unfold dt cz at this ⊢
   simp only [List.replicate_succ,zipWith_cons_cons,sum_cons]
   rw [this]
   simp
structure QB(R:List (List Int)):Prop where
 len:R.length=5
 row:∀ r∈R,r.length=5
 pos:∀ (h:Nat) (r:List Int),R[h]?=some r->0<r.getD h 0
 zero:∀ (h:Nat) (r:List Int) (j:Nat),R[h]?=some r->h<j->r.getD j 0=0
def pd(R:List (List Int)):Nat->Nat->Int
 | _,0=>1
 | h,k+1=>(R.getD h []).getD h 0*pd R (h+1) k
def Pd(R:List (List Int))(h:Nat):Int:=pd R h (5 - h)
theorem iN(R:List (List Int)){h:Nat}(hh:h<5):Pd R h=(R.getD h []).getD h 0*Pd R (h+1):=by
 unfold Pd
 rw [show 5 - h=(5 - (h+1))+1 by lia,pd]
theorem CO(R:List (List Int)):Pd R 5=1:=rfl
theorem Jc(R : List (List Int)){j : Nat}: ∀ {h : Nat}, h <= j -> j <= 5 -> Pd R j ∣ Pd R h := by
  intro h hj h5
  induction j with
  | zero => obtain rfl : h=0 := by lia
            exact dvd_refl _
  | succ j ih =>
    by_cases e : h=j+1
    · rw [e];exact dvd_refl _
    · refine dvd_trans ?_ (ih aaa aaa)
      rw [iN R (show j<5 by lia)]
      exact Int.dvd_mul_left _ _
structure WI(R:List (List Int))(p:Nat)(whole:Int)(ws:List Int):Prop where
 eq:∀ (h:Nat) (r:List Int),h<ws.length->R[h]?=some r->dt r (ws.take (h+1))=if h=p then whole else 0
 dv:∀ (j:Nat),j<ws.length->Pd R (j+1) ∣ ws.getD j 0
 lo:∀ j,j<ws.length->j<p->ws.getD j 0=0
theorem CP{d:Int}:∀ {a b:List Int},(∀ j,j<b.length->d ∣ b.getD j 0)->d ∣ dt a b
 | [],_,_=>by simp [dt]
 | _::_,[],_=>by simp [dt]
 | x::a,y::b,h=>by
  unfold dt
  simp only [zipWith_cons_cons,sum_cons]
  refine Int.dvd_add (Int.dvd_mul_of_dvd_right (by simpa using h 0 (by simp))) ?_
  exact CP (a:=a) (b:=b) fun j hj=>by simpa using h (j+1) (by simpa using hj)
theorem WI.next{p:Nat}{whole:Int}(T:QB R)(hw:whole=Pd R 0)(h:WI R p whole ws)(hr:R[ws.length]?=some r):
  let x:=((if ws.length=p then whole else 0) - dt r ws).fdiv (r.getD ws.length 0)
  r.getD ws.length 0*x=(if ws.length=p then whole else 0) - dt r ws/\WI R p whole (ws++[x]):=by
 intro x
 have hl:ws.length<5:=by have:=(aad.mp hr).1;rw [T.len] at this;exact this
 have oQ:=T.pos _ _ hr
 have hlr:=T.row r (aay hr)
 have eg:R.getD ws.length []=r:=by rw [List.getD,hr];rfl
 have e1:Pd R ws.length=r.getD ws.length 0*Pd R (ws.length+1):=by rw [iN R hl,eg]
 have YQ:Pd R ws.length ∣ (if ws.length=p then whole else 0) - dt r ws:=by
  refine dvd_sub ?_ (CP fun j hj=>dvd_trans (Jc R aaa aaa) (h.dv j hj))
  split
  ·rw [hw];exact Jc R (aa0 _) aaa
  ·exact aaW _
 have hex:r.getD ws.length 0*x=(if ws.length=p then whole else 0) - dt r ws:=by
  obtain ⟨c,hc⟩:=dvd_trans (⟨_,e1⟩:r.getD ws.length 0 ∣ Pd R ws.length) YQ
  show r.getD ws.length 0*(((if ws.length=p then whole else 0) - dt r ws).fdiv (r.getD ws.length 0))=_
  rw [hc,Int.mul_comm,Int.mul_fdiv_cancel_left _ aaa,Int.mul_comm]
 refine⟨hex,fun k q hk hq=>?_,fun j hj=>?_,fun j hj hjp=>?_⟩
 ·by_cases e:k=ws.length
  ·subst e
   rw [hr] at hq
   cases hq
   rw [aaU (by simp),EH _ _ _ aaa,hex]
   lia
  ·have oJ:k<ws.length:=by simp at hk;lia
   rw [List.take_append_of_le_length aaa]
   exact h.eq k q oJ hq
 ·by_cases e:j=ws.length
  ·subst e
   rw [List.getD,aaK (aah _),sub_self]
   show Pd R (ws.length+1) ∣ x
   obtain ⟨c,hc⟩:=YQ
   refine⟨c,?_⟩
   have:r.getD ws.length 0*x=r.getD ws.length 0*(Pd R (ws.length+1)*c):=by rw [hex,hc,e1,Int.mul_assoc]
   exact Int.eq_of_mul_eq_mul_left aaa this
  ·have Qq:j<ws.length:=by simp at hj;lia
   rw [List.getD,aaJ Qq]
   exact h.dv j Qq
 ·by_cases e:j=ws.length
  ·subst e
   have hz:dt r ws=0:=by
    have hzz:∀ j,j<ws.length->(0:Int) ∣ ws.getD j 0:=fun j hj=>by rw [h.lo j hj aaa];exact dvd_refl _
    exact aaY.mp (CP hzz)
   rw [List.getD,aaK (aah _),sub_self]
   show x=0
   have:r.getD ws.length 0*x=0:=by rw [hex,if_neg aaa,hz];rfl
   rcases aaX.mp this with z|z
   ·lia
   ·exact z
  ·have Qq:j<ws.length:=by simp at hj;lia
   rw [List.getD,aaJ Qq]
   exact h.lo j Qq hjp
theorem WI.start(R:List (List Int))(p:Nat)(whole:Int):WI R p whole []:=⟨fun h r hh=>by simp at hh,fun j hj=>by simp at hj,fun j hj=>by simp at hj⟩
theorem WI.all{p:Nat}{whole:Int}(T:QB R)(h:WI R p whole ws)(hl:ws.length=5):∀ k r,R[k]?=some r->dt r ws=if k=p then whole else 0:=fun k r hr=>by
 have hk:k<5:=by have:=(aad.mp hr).1;rw [T.len] at this;exact this
 rw [<- h.eq k r aaa hr]
 have lt:(ws.take (k+1)).length=k+1:=by rw [aaO];lia
 have e:dt r (ws.take (k+1))=dt (r.take (k+1)) ws:=by
  unfold dt
  congr 1
  have h1:List.zipWith (·*·) r (ws.take (k+1))=(List.zipWith (·*·) r ws).take (k+1):=by
   apply List.ext_getElem?
   intro i
   by_cases c:i<k+1
   ·simp [getElem?_zipWith,getElem?_take,c]
   ·simp only [getElem?_zipWith,getElem?_take,if_neg c]
    cases r[i]? <;> rfl
  have h2:List.zipWith (·*·) (r.take (k+1)) ws=(List.zipWith (·*·) r ws).take (k+1):=by
   apply List.ext_getElem?
   intro i
   by_cases c:i<k+1
   ·simp [getElem?_zipWith,getElem?_take,c]
   ·simp only [getElem?_zipWith,getElem?_take,if_neg c]
  rw [h1,h2]
 have lr:=T.row r (aay hr)
 have e2:dt r ws=dt (r.take (k+1)++cz (4 - k)) ws:=by
  rw [iL r,iL _ ws]
  refine Jb (n:=5) hl lr (by rw [aaA,aI,aaO];lia) fun i hi=>?_
  by_cases c:i<k+1
  ·right
   rw [List.getD,List.getD,aaJ (by rw [aaO];lia),getElem?_take,if_pos c]
  ·right
   rw [T.zero k r i hr aaa,List.getD,aaK (by rw [aaO];lia)]
   exact (ba _ _).symm
 rw [e2,e]
 have e3:∀ (a:List Int) (m:Nat) (c:List Int),dt (a++cz m) c=dt a c:=by
  intro a m c
  induction a generalizing c with
  | nil=>rw [nil_append,jD];simp [dt]
  | cons x a ih =>
   cases c with
   | nil=>rw [CN,CN]
   | cons y c =>
    have:=ih c
    unfold dt at this ⊢
    simp only [cons_append,zipWith_cons_cons,sum_cons]
    rw [this]
 exact e3 _ _ _
structure BP(st R:List (List Int)):Prop where
 len:R.length=5
 at_:∀ (h:Nat) (r:List Int),R[h]?=some r->(r∈st/\cG r h)\/((∀ s∈st,¬ cG s h)/\r=bF h 5)
 Xm:∀ s∈st,∀ h,cG s h->R[h]?=some s
theorem FY{h n:Nat}(hh:h<n):cG (bF h n) h:=by
 refine⟨by rw [bN hh,if_pos rfl];decide,fun i hi=>?_⟩
 by_cases c:i<n
 ·rw [bN c,if_neg aaa]
 ·rw [List.getD,getElem?_eq_none (by rw [bD];lia)];rfl
theorem BP.led(b:BP st R){h:Nat}(hr:R[h]?=some r):cG r h:=by
 rcases b.at_ h r hr with z|z
 ·exact z.2
 ·rw [z.2]
  exact FY (by have:=(aad.mp hr).1;rw [b.len] at this;exact this)
theorem BP.YR(b:BP st R)(hl:Len 5 st):QB R :=
 ⟨b.len,fun r hr=>by
  obtain ⟨h,hh,e⟩:=aa6 hr
  rcases b.at_ h r (by rw [aat hh,e]) with z|z
  ·exact hl r z.1
  ·rw [z.2,bD],fun h r hr=>(b.led hr).1,fun h r j hr hj=>(b.led hr).2 j hj⟩
theorem iw{R:List (List Int)}{h:Nat}{r:List Int}(hr:R[h]?=some r):R.getD h []=r:=by rw [List.getD,hr];rfl
theorem FZ{R:List (List Int)}(hl:R.length=5){h:Nat}(hh:h<5):∃ r,R[h]?=some r:=⟨R[h]' aaa,aat _⟩
theorem BP.one{st R:List (List Int)}(b:BP st R){h:Nat}(hh:h<5)(hn:∀ s∈st,¬ cG s h):(R.getD h []).getD h 0=1:=by
 obtain ⟨r,hr⟩:=FZ b.len hh
 rw [iw hr]
 rcases b.at_ h _ hr with z|z
 ·exact absurd z.2 (hn _ z.1)
 ·rw [z.2,bN hh,if_pos rfl]
theorem Jd(b : BP st R){a c : Nat}(hac : a <= c)(hc : c <= 5)(hn : ∀ t, a <= t -> t<c -> ∀ s ∈ st, ¬ cG s t): Pd R a=Pd R c := by
  induction c with
  | zero => obtain rfl : a=0 := by lia
            rfl
  | succ c ih =>
    by_cases e : a=c+1
    · rw [e]
    · rw [ih aaa aaa fun t h1 h2 => hn t h1 aaa, iN R (show c<5 by lia), b.one aaa (hn c aaa aaa), Int.one_mul]
theorem CQ{h:Nat}(hl:r.length=5)(h1:cG r h):h<5:=by
 have:=h1.1
 by_cases c:h<5
 ·exact c
 ·rw [List.getD,getElem?_eq_none aaa] at this
  exact absurd this aa8
theorem xG(sf:SF st){i j k l:Nat}(hij:i<j)(ha:st[i]?=some a)(hb:st[j]?=some b)(hk:cG a k)(hl:cG b l):l<k:=by
 obtain ⟨p1,e1⟩:=aad.mp ha
 obtain ⟨p2,e2⟩:=aad.mp hb
 have:=List.pairwise_iff_getElem.mp sf.2 i j p1 p2 hij
 rw [e1,e2] at this
 obtain ⟨⟨j',h1,h2⟩,_⟩:=this l hl
 rw [hk.uniq h2]
 exact h1
theorem EI{st R:List (List Int)}(b:BP st R)(sf:SF st)(hl:Len 5 st){i k k':Nat}{s:List Int}(hs:st[i]?=some s)(oJ:cG s k')(hk:(i=0/\k=5)\/∃ j a,j+1=i/\st[j]?=some a/\cG a k):Pd R k*s.getD k' 0=Pd R k':=by
 have h5:=CQ (hl s (aay hs)) oJ
 have fk:k'<k:=by
  rcases hk with z|⟨j,a,e,ha,F0⟩
  ·lia
  ·exact xG sf aaa ha hs F0 oJ
 have hk5:k<=5:=by
  rcases hk with z|⟨j,a,e,ha,F0⟩
  ·lia
  ·have:=CQ (hl a (aay ha)) F0
   lia
 have e1:Pd R (k'+1)=Pd R k:=Jd b aaa hk5 fun t h1 h2 q hq Je=>by
  obtain ⟨n,hn,eq⟩:=aa6 hq
  have Ee:st[n]?=some q:=by rw [aat hn,eq]
  rcases (show n<i\/n=i\/i<n by lia) with c|c|c
  ·rcases hk with z|⟨j,a,e,ha,F0⟩
   ·lia
   ·by_cases c2:n=j
    ·subst c2
     rw [Ee] at ha
     cases ha
     have:=Je.uniq F0
     lia
    ·have:=xG sf (show n<j by lia) Ee ha Je F0
     lia
  ·subst c
   rw [Ee] at hs
   cases hs
   have:=Je.uniq oJ
   lia
  ·have:=xG sf c hs Ee oJ Je
   lia
 rw [iN R h5,e1,iw (b.Xm s (aay hs) k' oJ)]
 exact Int.mul_comm _ _
theorem AL(b:BP st R)(sf:SF st)(hl:Len 5 st){k:Nat}(hk:(st=[]/\k=5)\/∃ j a,j+1=st.length/\st[j]?=some a/\cG a k):Pd R k=Pd R 0:=by
 have hk5:k<=5:=by
  rcases hk with z|⟨j,a,e,ha,F0⟩
  ·lia
  ·have:=CQ (hl a (aay ha)) F0
   lia
 refine (Jd b (aa0 _) hk5 fun t h1 h2 q hq Je=>?_).symm
 rcases hk with z|⟨j,a,e,ha,F0⟩
 ·rw [z.1] at hq;simp at hq
 ·obtain ⟨n,hn,eq⟩:=aa6 hq
  have Ee:st[n]?=some q:=by rw [aat hn,eq]
  by_cases c2:n=j
  ·subst c2
   rw [Ee] at ha
   cases ha
   have:=Je.uniq F0
   lia
  ·have:=xG sf (show n<j by lia) Ee ha Je F0
   lia
theorem CS{R:List (List Int)}(T:QB R){h:Nat}(hh:h<=5):0<Pd R h:=by
 obtain ⟨n,rfl⟩:∃ n,h=5 - n:=⟨5 - h,aaa⟩
 have hn:n<=5\/5<n:=by lia
 induction n with
 | zero=>rw [sub_zero,CO];decide
 | succ n ih =>
  by_cases c:n<5
  ·have h1:=ih aaa aaa
   rw [iN R (show 5 - (n+1)<5 by lia),show 5 - (n+1)+1=5 - n by lia]
   obtain ⟨r,hr⟩:=FZ T.len (show 5 - (n+1)<5 by lia)
   refine Int.mul_pos ?_ h1
   rw [iw hr]
   exact T.pos _ _ hr
  ·rw [show 5 - (n+1)=5 - n by lia]
   exact ih aaa aaa
def EJ(st:List (List Int))(p:Nat)(whole ring:Int):Prop:=((∃ s∈st,cG s p)/\ring=whole)\/((∀ s∈st,¬ cG s p)/\ring=0)
theorem Jf{p:Nat}{whole ring:Int}(b:BP st R)(sf:SF st)(hl:Len 5 st)(h:WI R p whole ws)(hw:ws.length=5)(hr:EJ st p whole ring)(hc:Span 5 st c):ring ∣ dt c ws:=by
 have T:=b.YR hl
 refine (hc (fun v=>v.length=5/\ring ∣ dt v ws) ⟨⟨rfl,by rw [jD];exact aaW _⟩,fun x y lx ly hx hy=>⟨sub_len lx ly,by rw [iM lx ly hw];exact dvd_sub hx.2 hy.2⟩⟩ fun s hs=>⟨hl s hs,?_⟩).2
 obtain ⟨k,hk⟩:=sf.1 s hs
 rw [h.all T hw k s (b.Xm s hs k hk)]
 split
 ·rename_i e
  subst e
  rcases hr with ⟨_,rfl⟩|⟨z,_⟩
  ·exact dvd_refl _
  ·exact absurd hk (z s hs)
 ·exact aaW _
theorem EK{n:Nat}(hl:v.length=n)(h:v≠cz n):∃ k,k<n/\v.getD k 0≠0/\∀ i,k<i->v.getD i 0=0:=by
 have:∀ m,m<=n->(∀ i,m<=i->v.getD i 0=0)->∃ k,k<n/\v.getD k 0≠0/\∀ i,k<i->v.getD i 0=0:=by
  intro m
  induction m with
  | zero=>intro _ hz;exact absurd (bo hl (aI n) fun i _=>by rw [hz i (aa0 _),ba]) h
  | succ m ih =>
   intro hm hz
   by_cases c:v.getD m 0=0
   ·exact ih aaa fun i hi=>by
     by_cases e:i=m
     ·rw [e];exact c
     ·exact hz i aaa
   ·exact⟨m,aaa,c,fun i hi=>hz i aaa⟩
 exact this n (aah _) fun i hi=>by rw [List.getD,getElem?_eq_none aaa];rfl
theorem yw{n k:Nat}(ha:a.length=n)(hb:b.length=n)(hk:k<n)(h:∀ i,i<n->i≠k->a.getD i 0=0\/b.getD i 0=0):dt a b=a.getD k 0*b.getD k 0:=by
 have e:dt a b=dt (bH (bF k n) (a.getD k 0)) b:=by
  rw [iL a,iL _ b]
  refine Jb hb ha (aF (bD k n)) fun i hi=>?_
  rw [bt,bN hi]
  by_cases c:i=k
  ·subst c;right;rw [if_pos rfl,Int.one_mul]
  ·rcases h i hi c with z|z
   ·right;rw [if_neg c,zero_mul];exact z
   ·left;exact z
 rw [e]
 have e2:∀ (n k:Nat) (b:List Int) (x:Int),b.length=n->k<n->dt (bH (bF k n) x) b=x*b.getD k 0:=by
  intro n
  induction n with
  | zero=>intro k b x _ hk;lia
  | succ n ih =>
   intro k b x hb hk
   match b,hb with
   | y::b,hb =>
    have Xn:b.length=n:=by simpa using hb
    have eu:bF k (n+1)=(if 0=k then 1 else 0)::(if k=0 then cz n else bF (k - 1) n):=by
     refine bo (n:=n+1) (bD _ _) (by rw [length_cons];by_cases c:k=0 <;> simp [c,aI,bD]) fun i hi=>?_
     rw [bN hi]
     cases i with
     | zero=>simp
     | succ i =>
      rw [List.getD_cons_succ]
      by_cases c:k=0
      ·rw [if_pos c,ba,if_neg aaa]
      ·rw [if_neg c,bN aaa]
       by_cases c2:i+1=k
       ·rw [if_pos c2,if_pos aaa]
       ·rw [if_neg c2,if_neg aaa]
    rw [eu]
    by_cases c:k=0
    ·subst c
     have:bH (cz n) x=cz n:=bo (aF (aI n)) (aI n) fun i _=>by rw [bt,ba,zero_mul]
     show dt ((1*x)::bH (cz n) x) (y::b)=x*y
     rw [this]
     have:=jD n b
     unfold dt at this ⊢
     simp only [zipWith_cons_cons,sum_cons]
     rw [this]
     simp
    ·have:=ih (k - 1) b x Xn aaa
     show dt (((if 0=k then 1 else 0)*x)::bH (if k=0 then cz n else bF (k - 1) n) x) (y::b)=x*(y::b).getD k 0
     rw [if_neg aaa,if_neg c]
     unfold dt at this ⊢
     simp only [zipWith_cons_cons,sum_cons]
     rw [this,show k=(k - 1)+1 by lia,List.getD_cons_succ]
     simp
 rw [e2 n k b _ hb hk]
theorem tells{st R:List (List Int)}{k:Nat}{whole ring:Int}{ws ρ:List Int}(b:BP st R)(hl:Len 5 st)(hW:whole=Pd R 0)(h:WI R k whole ws)(hw:ws.length=5)(hr:EJ st k whole ring)
  (lρ:ρ.length=5) (hk:k<5) (UL:ρ.getD k 0≠0) (hz:∀ i,k<i->ρ.getD i 0=0) (AM:∀ s∈st,cG s k->0<=ρ.getD k 0/\ρ.getD k 0<s.getD k 0):¬ ring ∣ dt ρ ws:=by
 have T:=b.YR hl
 obtain ⟨rk,hR⟩:=FZ T.len hk
 have hlr:=T.row _ (aay hR)
 have e1:dt ρ ws=ρ.getD k 0*ws.getD k 0:=yw lρ hw hk fun i hi rK=>by
  rcases (show i<k\/k<i by lia) with c|c
  ·exact .inr (h.lo i aaa c)
  ·exact .inl (hz i c)
 have e2:rk.getD k 0*ws.getD k 0=whole:=by
  have:=h.all T hw k _ hR
  rw [if_pos rfl] at this
  rw [<- this]
  exact (yw hlr hw hk fun i hi rK=>by
   rcases (show i<k\/k<i by lia) with c|c
   ·exact .inr (h.lo i aaa c)
   ·exact .inl (T.zero k _ i hR c)).symm
 have hwp:0<whole:=by rw [hW];exact CS T (aa0 _)
 have hRp:=T.pos k _ hR
 have hwk:0<ws.getD k 0:=by
  rcases Int.lt_trichotomy (ws.getD k 0) 0 with z|z|z
  ·have:=Int.mul_neg_of_pos_of_neg hRp z
   lia
  ·rw [z,mul_zero] at e2;lia
  ·exact z
 rw [e1]
 rcases hr with ⟨⟨s,hs,hsk⟩,rfl⟩|⟨_,rfl⟩
 ·have es:rk=s:=by
   have:=b.Xm s hs k hsk
   rw [hR] at this
   exact aaj this
  have:=AM s hs hsk
  rw [<- es] at this
  intro hd
  have h1:0<ρ.getD k 0*ws.getD k 0:=Int.mul_pos aaa hwk
  have h2:ρ.getD k 0*ws.getD k 0<ring:=by rw [<- e2];exact Int.mul_lt_mul_of_pos_right this.2 hwk
  have:=Int.le_of_dvd h1 hd
  lia
 ·intro hd
  have:=aaY.mp hd
  rcases aaX.mp this with z|z
  ·exact UL z
  ·lia
theorem SF.nE{n j:Nat}:∀ {bs:List (List Int)} {v:List Int},SF bs->Len n bs->Span n bs v->v.getD j 0≠0->(∀ i,j<i->v.getD i 0=0)->∃ u∈bs,cG u j/\(u.getD j 0).natAbs<=(v.getD j 0).natAbs
 | [],v,_,_,hv,h0,_=>by
  rw [hv.none,ba] at h0
  exact absurd rfl h0
 | a::rs,v,h,hl,hv,h0,hz=>by
  obtain ⟨k,hk⟩:=h.1 a (.head _)
  have la:=hl a (.head _)
  have lr:Len n rs:=fun r hr=>hl r (.tail _ hr)
  obtain ⟨c,_,e,z⟩:=h.split la lr hk hv
  rcases lt_trichotomy k j with q|q|q
  ·exact absurd (z j q) h0
  ·subst q
   refine⟨a,.head _,hk,?_⟩
   have hc:c≠0:=fun z=>h0 (by rw [e,z,mul_zero])
   rw [e,aaV]
   exact Nat.le_mul_of_pos_right _ aaa
  ·obtain ⟨u,hu,r⟩:=SF.nE h.tail lr (h.rest la lr hk hv (hz k q)) h0 hz
   exact⟨u,.tail _ hu,r⟩
theorem SF.sE:∀ {rs:List (List Int)} {t u:List Int} {k:Nat},SF rs->t∈rs->u∈rs->cG u k->0<=t.getD k 0/\t.getD k 0<=u.getD k 0
 | [],_,_,_,_,h,_,_=>nomatch h
 | a::rs,t,u,k,h,ht,hu,hk=>by
  have hp:=aa3.mp h.2
  rcases aaC.mp ht with rfl|UM
  ·rcases aaC.mp hu with rfl|Qx
   ·exact⟨Int.le_of_lt hk.1,Int.le_refl _⟩
   ·have:=(hp.1 u Qx k hk).2
    exact⟨this.1,Int.le_of_lt this.2⟩
  ·rcases aaC.mp hu with rfl|Qx
   ·rw [h.AD hk (aah _) t UM]
    exact⟨Int.le_refl _,Int.le_of_lt hk.1⟩
   ·exact SF.sE h.tail UM Qx hk
theorem SF.count:∀ {rs:List (List Int)} {n:Nat},SF rs->(∀ r∈rs,∀ k,cG r k->k<n)->rs.length<=n
 | [],_,_,_=>aa0 _
 | a::rs,n,h,hk=>by
  obtain ⟨j,hj⟩:=h.1 a (.head _)
  have:=hk a (.head _) j hj
  have ih:=SF.count h.tail (n:=j) fun r hr k oJ=>by
   obtain ⟨⟨j',Qq,lj⟩,_⟩:=(aa3.mp h.2).1 r hr k oJ
   have:=lj.uniq hj
   lia
  rw [length_cons]
  lia
def cr:Nat->Nat
 | 0=>0
 | r+1=>2*cr r+1
theorem Jg{a x c:Int}{N:Nat}(ha:0<a)(e:x=a*c)(h:x.natAbs<=N*a.natAbs):c.natAbs<=N:=by
 rw [e,aaV,Nat.mul_comm N] at h
 exact Nat.le_of_mul_le_mul_left h aaa
theorem Jh{n B N:Nat}{c:Int}{k:Nat}(lx:x.length=n)(la:a.length=n)(hc:c.natAbs<=N){s:Int}(hx:(x.getD k 0).natAbs<=B*s.natAbs)(h0:0<=a.getD k 0)(h1:a.getD k 0<s):((low x a c).getD k 0).natAbs<=(B+N)*s.natAbs:=by
 rw [cm lx la]
 have h2:(a.getD k 0*c).natAbs<=N*s.natAbs:=by
  rw [aaV,Nat.mul_comm]
  exact aaI hc aaa
 rw [add_mul]
 exact aag (natAbs_sub_le _ _) (add_le_add hx h2)
theorem CT{n D B N:Nat}{c:Int}(lx:x.length=n)(la:a.length=n)(hc:c.natAbs<=N)(hl:bY D (low x a c))(ha:bY B a):bY (D+N*B) x:=fun i=>by
 have h1:=hl i
 rw [cm lx la] at h1
 have h2:(a.getD i 0*c).natAbs<=N*B:=by
  rw [aaV,Nat.mul_comm]
  exact aaI hc (ha i)
 have h3:=Int.natAbs_add_le (x.getD i 0 - a.getD i 0*c) (a.getD i 0*c)
 rw [Int.sub_add_cancel] at h3
 exact aag h3 (add_le_add h1 h2)
theorem SF.reach{n B:Nat}:∀ {st:List (List Int)} {N:Nat} {x:List Int},SF st->Len n st->(∀ s∈st,bY B s)->Span n st x->(∀ s∈st,∀ k,cG s k->(x.getD k 0).natAbs<=N*(s.getD k 0).natAbs)->bY (cr st.length*(N*B)) x
 | [],N,x,_,_,_,hx,_=>fun i=>by rw [hx.none,ba];exact aa0 _
 | a::rs,N,x,h,hl,hb,hx,hN=>by
  obtain ⟨j,hj⟩:=h.1 a (.head _)
  have la:=hl a (.head _)
  have lr:Len n rs:=fun r hr=>hl r (.tail _ hr)
  have lx:x.length=n:=hx.len hl
  obtain ⟨c,hs,e,_⟩:=h.split la lr hj hx
  have hc:=Jg hj.1 e (hN a (.head _) j hj)
  have ih:=SF.reach h.tail lr (fun s hs=>hb s (.tail _ hs)) hs (N:=N+N) fun s hs k hk=>by
   have hp:=((aa3.mp h.2).1 s hs k hk).2
   exact Jh lx la hc (hN s (.tail _ hs) k hk) hp.1 hp.2
  refine (CT lx la hc ih (hb a (.head _))).mono (le_of_eq ?_)
  rw [length_cons,cr,add_mul,add_mul,one_mul,mul_add,<- Nat.two_mul,mul_assoc]
theorem yx{n:Nat}:∀ {a b:List Int} {d:Int},a.length=n->b.length=n->dt (bH a d) b=dt a b*d:=by
 induction n with
 | zero=>intro a b d ha hb;rw [length_eq_zero_iff.mp ha];simp [dt,bH]
 | succ n ih =>
  intro a b d ha hb
  match a,b,ha,hb with
  | x::a,y::b,ha,hb =>
   have e:=ih (a:=a) (b:=b) (d:=d) (by simpa using ha) (by simpa using hb)
   unfold dt bH at e ⊢
   simp only [map_cons,zipWith_cons_cons,sum_cons]
   rw [e,Int.add_mul,Int.mul_assoc,Int.mul_comm d,<- Int.mul_assoc]
theorem Ji{n:Nat}{c:Int}(lx:x.length=n)(la:a.length=n)(lw:w.length=n):dt (low x a c) w=dt x w - dt a w*c:=by
 unfold low
 rw [iM lx (aF la) lw,yx la lw]
theorem Span.dt0{n:Nat}(lw:w.length=n)(hl:Len n rs)(h:Span n rs v)(h0:∀ r∈rs,dt r w=0):dt v w=0 :=
 (h (fun v=>v.length=n/\dt v w=0) ⟨⟨aI n,jD n w⟩,fun a b la lb ha hb=>⟨sub_len la lb,by rw [iM la lb lw,ha.2,hb.2];rfl⟩⟩ fun r hr=>⟨hl r hr,h0 r hr⟩).2
def OE(V q:Nat):Nat->Nat->Nat->Nat
 | 0,N,U=>(cr q+1)*(N+U)
 | a+1,N,U=>OE V q a (N+N) (U+V*N)+N
theorem SF.Jj{n B V:Nat}(lw:w.length=n)(Qw:dt s w≠0)(hp0:∀ r∈post,dt r w=0):∀ {pre:List (List Int)} {N U:Nat} {x:List Int},SF (pre++s::post)->Len n (pre++s::post)->(∀ r∈pre++s::post,bY B r)->(∀ r∈pre,(dt r w).natAbs<=V)->Span n (pre++s::post) x->(dt x w).natAbs<=U ->
  (∀ r,r∈pre\/r∈post->∀ k,cG r k->(x.getD k 0).natAbs<=N*(r.getD k 0).natAbs)->bY (OE V post.length pre.length N U*B) x
 | [],N,U,x,h,hl,hb,_,hx,hU,hN=>by
  obtain ⟨j,hj⟩:=h.1 s (.head _)
  have ls:=hl s (.head _)
  have lp:Len n post:=fun r hr=>hl r (.tail _ hr)
  have lx:x.length=n:=hx.len hl
  obtain ⟨c,hs,e,_⟩:=h.split ls lp hj hx
  have hd:=Span.dt0 lw lp hs hp0
  rw [Ji lx ls lw] at hd
  have hc:c.natAbs<=U:=by
   have e2:dt x w=dt s w*c:=by lia
   rw [e2,aaV] at hU
   exact aag (le_mul_of_pos_left _ aaa) hU
  have ih:=SF.reach h.tail lp (fun r hr=>hb r (.tail _ hr)) hs (N:=N+U) fun r hr k hk=>by
   have hp:=((aa3.mp h.2).1 r hr k hk).2
   exact Jh lx ls hc (hN r (.inr hr) k hk) hp.1 hp.2
  refine (CT lx ls hc ih (hb s (.head _))).mono ?_
  show cr post.length*((N+U)*B)+U*B<=(cr post.length+1)*(N+U)*B
  rw [mul_assoc,add_mul (cr post.length) 1,one_mul]
  exact Nat.add_le_add_left (aaH _ (Nat.le_add_left _ _)) _
 | a::pre,N,U,x,h,hl,hb,hV,hx,hU,hN=>by
  have h:SF (a::(pre++s::post)):=h
  have hx:Span n (a::(pre++s::post)) x:=hx
  obtain ⟨j,hj⟩:=h.1 a (.head _)
  have la:=hl a (.head _)
  have lr:Len n (pre++s::post):=fun r hr=>hl r (.tail _ hr)
  have lx:x.length=n:=hx.len hl
  obtain ⟨c,hs,e,_⟩:=h.split la lr hj hx
  have hc:=Jg hj.1 e (hN a (.inl (.head _)) j hj)
  have hU':(dt (low x a c) w).natAbs<=U+V*N:=by
   rw [Ji lx la lw]
   have h2:(dt a w*c).natAbs<=V*N:=by
    rw [aaV]
    exact aaI (hV a (.head _)) hc
   exact aag (natAbs_sub_le _ _) (add_le_add hU h2)
  have ih:=SF.Jj lw Qw hp0 h.tail lr (fun r hr=>hb r (.tail _ hr)) (fun r hr=>hV r (.tail _ hr)) hs hU' (N:=N+N) fun r hr k hk=>by
   have hm:r∈pre++s::post:=hr.elim (fun z=>aav _ z) fun z=>aau _ (.tail _ z)
   have hp:=((aa3.mp h.2).1 r hm k hk).2
   exact Jh lx la hc (hN r (hr.imp (fun z=>.tail _ z) id) k hk) hp.1 hp.2
  refine (CT lx la hc ih (hb a (.head _))).mono (le_of_eq ?_)
  rw [length_cons,OE,add_mul]
def VZ(w:List Int)(m:Int)(x:List Int):Prop:=m ∣ dt x w
theorem VZ.sub{n:Nat}{m:Int}(lw:w.length=n)(lx:x.length=n)(ly:y.length=n)(hx:VZ w m x)(hy:VZ w m y):VZ w m (eL.sub x y):=by
 unfold VZ
 rw [iM lx ly lw]
 exact dvd_sub hx hy
structure eY(st:List (List Int))(w:List Int)(m:Int)(gm:List (List Int)):Prop where
 sf:SF gm
 len:Len 5 gm
 to:∀ x,Span 5 gm x->Span 5 st x/\VZ w m x
 UN:∀ x,Span 5 st x->VZ w m x->Span 5 gm x
theorem eY.same{m:Int}(sf:SF st)(hl:Len 5 st)(lw:w.length=5)(h:∀ r∈st,VZ w m r)(k:eY st w m gm):gm=st :=
 SF.uniq k.sf sf k.len hl ⟨fun r hr=>(k.to r (Span.mem hr)).1,fun r hr=>k.UN r (Span.mem hr) (h r hr)⟩
theorem eY.ME{m:Int}{B M:Nat}(k:eY st w m gm)(sf:SF st)(hl:Len 5 st)(lw:w.length=5)(hB:∀ r∈st,bY B r)(hm:m≠0)(hM:m.natAbs<=M):∀ t∈gm,bY (cr st.length*(M*B)) t:=fun t ht=>by
 refine sf.reach hl hB (k.to t (Span.mem ht)).1 fun s hs j hj=>?_
 have hy:Span 5 gm (bH s m):=k.UN _ (Span.mul (hl s hs) (Span.mem hs) m) (by unfold VZ;rw [yx (hl s hs) lw];exact Int.dvd_mul_left _ _)
 obtain ⟨u,hu,UO,Xo⟩:=k.sf.nE (j:=j) k.len hy (by
  rw [bt]
  exact fun z=>(aaX.mp z).elim (fun z=>by have:=hj.1;lia) hm) fun i hi=>by rw [bt,hj.2 i hi,zero_mul]
 have ha:=k.sf.sE ht hu UO
 rw [bt,aaV] at Xo
 have h3:(s.getD j 0).natAbs*m.natAbs<=M*(s.getD j 0).natAbs:=by rw [Nat.mul_comm];exact aaH _ hM
 lia
theorem EL{α:Type}(p:α->Prop)[DecidablePred p]:∀ (xs:List α),(∀ x∈xs,p x)\/∃ pre s post,xs=pre++s::post/\¬ p s/\∀ x∈post,p x
 | []=>.inl fun _ h=>nomatch h
 | a::xs=>by
  rcases EL p xs with h|⟨pre,s,post,e,h1,h2⟩
  ·by_cases c:p a
   ·exact .inl fun x hx=>(aaC.mp hx).elim (fun z=>z ▸ c) (h x)
   ·exact .inr ⟨[],a,xs,rfl,c,h⟩
  ·exact .inr ⟨a::pre,s,post,by rw [e];rfl,h1,h2⟩
theorem SF.back:∀ {pre:List (List Int)} {s:List Int} {post:List (List Int)},SF (pre++s::post)->∀ r∈pre,∀ k,cG r k->s.getD k 0=0/\∀ i,k<i->s.getD i 0=0
 | [],_,_,_,_,h,_,_=>nomatch h
 | a::pre,s,post,h,r,hr,k,hk=>by
  have h:SF (a::(pre++s::post)):=h
  rcases aaC.mp hr with rfl|Jk
  ·exact⟨h.AD hk (aah _) s (aau _ (.head _)),fun i hi=>h.AD hk (aai hi) s (aau _ (.head _))⟩
  ·exact SF.back h.tail r Jk k hk
theorem eY.MF{B V:Nat}(k:eY st w 0 gm)(sf:SF st)(hl:Len 5 st)(h5:st.length<=5)(lw:w.length=5)(hB:∀ r∈st,bY B r)(hV:∀ r∈st,(dt r w).natAbs<=V)(hV1:1<=V):∀ t∈gm,bY (64*(V*V)*B) t:=fun t ht=>by
 have hVV:V<=V*V:=le_mul_of_pos_left _ hV1
 rcases EL (fun r=>dt r w=0) st with h|⟨pre,s,post,e,h1,h2⟩
 ·have e:=k.same sf hl lw fun r hr=>by unfold VZ;rw [h r hr];exact aaW _
  subst e
  exact (hB t ht).mono (aag (le_of_eq (one_mul B).symm) (aaH _ aaa))
 ·subst e
  have AM:s∈pre++s::post:=aau _ (.head _)
  have ls:=hl s AM
  have hx:=k.to t (Span.mem ht)
  have hx0:dt t w=0:=aaY.mp hx.2
  have main:=SF.Jj (B:=B) (V:=V) lw h1 h2 sf hl hB (fun r hr=>hV r (aav _ hr)) hx.1 (U:=0) (by rw [hx0];exact aah _) (N:=V) fun r hr j hj=>by
   rcases hr with hr|hr
   ·have Xp:r∈pre++s::post:=aav _ hr
    have lr:=hl r Xp
    obtain ⟨z1,z2⟩:=SF.back sf r hr j hj
    have hy:Span 5 gm (eL.sub (bH r (dt s w)) (bH s (dt r w))):=by
     refine k.UN _ (Span.sub (aF lr) (aF ls) (Span.mul lr (Span.mem Xp) _) (Span.mul ls (Span.mem AM) _)) ?_
     unfold VZ
     rw [iM (aF lr) (aF ls) lw,yx lr lw,yx ls lw,Int.mul_comm (dt s w),Int.sub_self]
     exact dvd_refl _
    have AF:∀ i,(eL.sub (bH r (dt s w)) (bH s (dt r w))).getD i 0=r.getD i 0*dt s w - s.getD i 0*dt r w:=fun i=>by rw [bB (aF lr) (aF ls),bt,bt]
    obtain ⟨u,hu,UO,Xo⟩:=k.sf.nE (j:=j) k.len hy (by
     rw [AF,z1,zero_mul,Int.sub_zero]
     exact fun z=>(aaX.mp z).elim (fun z=>by have:=hj.1;lia) h1) fun i hi=>by rw [AF,hj.2 i hi,z2 i hi,zero_mul,zero_mul];rfl
    have ha:=k.sf.sE ht hu UO
    rw [AF,z1,zero_mul,Int.sub_zero,aaV] at Xo
    have h3:(r.getD j 0).natAbs*(dt s w).natAbs<=V*(r.getD j 0).natAbs:=by rw [Nat.mul_comm];exact aaH _ (hV s AM)
    lia
   ·have Xp:r∈pre++s::post:=aau _ (.tail _ hr)
    obtain ⟨u,hu,UO,Xo⟩:=k.sf.nE (j:=j) k.len (k.UN r (Span.mem Xp) (by unfold VZ;rw [h2 r hr];exact aaW _)) (by have:=hj.1;lia) hj.2
    have ha:=k.sf.sE ht hu UO
    have h3:1*(r.getD j 0).natAbs<=V*(r.getD j 0).natAbs:=aaH _ hV1
    lia
  refine main.mono (aaH _ ?_)
  have hlen:pre.length+(post.length+1)<=5:=by simpa using h5
  generalize pre.length=a at hlen
  generalize hq:post.length=q at hlen
  generalize hW:V*V=W at hVV
  have ha:a=0\/a=1\/a=2\/a=3\/a=4:=by lia
  rcases ha with rfl|rfl|rfl|rfl|rfl
  ·have Ak:q=0\/q=1\/q=2\/q=3\/q=4:=by lia
   simp only [OE]
   rcases Ak with rfl|rfl|rfl|rfl|rfl <;> simp only [cr] <;> lia
  ·have Ak:q=0\/q=1\/q=2\/q=3:=by lia
   simp only [OE,hW]
   rcases Ak with rfl|rfl|rfl|rfl <;> simp only [cr] <;> lia
  ·have Ak:q=0\/q=1\/q=2:=by lia
   simp only [OE,mul_add,hW]
   rcases Ak with rfl|rfl|rfl <;> simp only [cr] <;> lia
  ·have Ak:q=0\/q=1:=by lia
   simp only [OE,mul_add,hW]
   rcases Ak with rfl|rfl <;> simp only [cr] <;> lia
  ·have Ak:q=0:=by lia
   simp only [OE,mul_add,hW]
   subst Ak
   simp only [cr]
   lia
theorem jE{x:Int}(h:r.length=5):(r++[x]).take 5=r:=by rw [List.take_append_of_le_length aaa,aaU aaa]
theorem tM{x:Int}(h:r.length=5):(r++[x]).getD 5 0=x:=by
 rw [List.getD,aaK aaa,h]
 rfl
theorem EM{x y:Int}(ha:a.length=5)(hb:b.length=5):sub (a++[x]) (b++[y])=sub a b++[x - y]:=by
 unfold sub
 rw [List.zipWith_append aaa]
 rfl
theorem MG{x d:Int}:bH (a++[x]) d=bH a d++[x*d]:=by unfold bH;rw [aaR];rfl
theorem tN{k:Nat}(h:v.length=6)(h0:v.getD 5 0=0):cG (v.take 5) k↔cG v k:=by
 have lt:(v.take 5).length=5:=bx h aa8
 have hz:∀ i,5<=i->v.getD i 0=0:=fun i hi=>by
  by_cases c:i=5
  ·rw [c];exact h0
  ·rw [List.getD,getElem?_eq_none aaa];rfl
 have ht:∀ i,(v.take 5).getD i 0=v.getD i 0:=fun i=>by
  by_cases c:i<5
  ·exact cK v c
  ·rw [hz i aaa,List.getD,getElem?_eq_none aaa];rfl
 unfold cG
 simp only [ht]
theorem SF.UP(h:SF T)(hl:Len 6 T)(h0:∀ v∈T,v.getD 5 0=0):SF (T.map (List.take 5)):=by
 refine⟨fun r hr=>?_,?_⟩
 ·obtain ⟨v,hv,rfl⟩:=aaD.mp hr
  obtain ⟨k,hk⟩:=h.1 v hv
  exact⟨k,(tN (hl v hv) (h0 v hv)).mpr hk⟩
 ·rw [pairwise_map]
  refine List.Pairwise.imp_of_mem (fun {a b} ha hb IV k hk=>?_) h.2
  have oJ:=(tN (hl b hb) (h0 b hb)).mp hk
  obtain ⟨⟨j,hj,la⟩,h1,h2⟩:=IV k oJ
  have h5:k<5:=oO hk
  rw [cK a h5,cK b h5]
  exact⟨⟨j,hj,(tN (hl a ha) (h0 a ha)).mpr la⟩,h1,h2⟩
theorem SF.UQ(h:SF S)(hl:Len 6 S):SF (S.filter fun v=>v.getD 5 0 == 0)/\∀ x,Span 6 S x->x.getD 5 0=0->Span 6 (S.filter fun v=>v.getD 5 0 == 0) x:=by
 match S,h,hl with
 | [],h,hl=>exact⟨h,fun x hx _=>hx⟩
 | a::rs,h,hl =>
  obtain ⟨k,hk⟩:=h.1 a (.head _)
  have la:=hl a (.head _)
  have lr:Len 6 rs:=fun r hr=>hl r (.tail _ hr)
  have hk6:k<6:=by
   have:=hk.1
   by_cases c:k<6
   ·exact c
   ·rw [List.getD,getElem?_eq_none aaa] at this
    exact absurd this aa8
  have eU:rs.filter (fun v=>v.getD 5 0 == 0)=rs:=List.filter_eq_self.mpr fun r hr=>by
   rw [h.AD hk (i:=5) aaa r hr]
   rfl
  by_cases c:a.getD 5 0=0
  ·have e:(a::rs).filter (fun v=>v.getD 5 0 == 0)=a::rs:=by rw [List.filter_cons_of_pos (by rw [c];rfl),eU]
   rw [e]
   exact⟨h,fun x hx _=>hx⟩
  ·have e:(a::rs).filter (fun v=>v.getD 5 0 == 0)=rs:=by rw [List.filter_cons_of_neg (by simpa using c),eU]
   rw [e]
   have e5:k=5:=by
    rcases lt_or_ge k 5 with z|z
    ·exact absurd (hk.2 5 z) c
    ·lia
   subst e5
   exact⟨h.tail,fun x hx h0=>h.rest la lr hk hx h0⟩
def valued(f:List Int->Int)(st:List (List Int))(m:Int):List (List Int):=st.map (fun r=>r++[f r])++[cz 5++[m]]
theorem EN{m:Int}{f:List Int->Int}(hl:Len 5 st)(lw:w.length=5)(hf:∀ r∈st,m ∣ dt r w - f r)(sf:SF S)(hS:Len 6 S)(e:Eqv 6 (valued f st m) S):
  eY st w m ((S.filter fun v=>v.getD 5 0 == 0).map (List.take 5)):=by
 obtain ⟨g1,g2⟩:=sf.UQ hS
 have hT:∀ v∈S.filter (fun v=>v.getD 5 0 == 0),v∈S/\v.getD 5 0=0:=fun v hv=>by
  obtain ⟨a,b⟩:=aaE.mp hv
  exact⟨a,by simpa using b⟩
 have lT:Len 6 (S.filter fun v=>v.getD 5 0 == 0):=fun v hv=>hS v (hT v hv).1
 have p6:∀ y,Span 6 (valued f st m) y->y.length=6/\Span 5 st (y.take 5)/\m ∣ dt (y.take 5) w - y.getD 5 0:=fun y hy=>by
  refine hy (fun y=>y.length=6/\Span 5 st (y.take 5)/\m ∣ dt (y.take 5) w - y.getD 5 0) ⟨⟨aI 6,?_,?_⟩,fun a b la lb ha hb=>⟨sub_len la lb,?_,?_⟩⟩ fun r hr=>?_
  ·rw [tK aa8];exact Span.zero
  ·rw [tK aa8,jD,ba];exact aaW _
  ·rw [nD];exact Span.sub (bx la aa8) (bx lb aa8) ha.2.1 hb.2.1
  ·rw [nD,bB la lb,iM (bx la aa8) (bx lb aa8) lw]
   have:=dvd_sub ha.2.2 hb.2.2
   rwa [show dt (a.take 5) w - dt (b.take 5) w - (a.getD 5 0 - b.getD 5 0)=dt (a.take 5) w - a.getD 5 0 - (dt (b.take 5) w - b.getD 5 0) by lia]
  ·rcases aax.mp hr with z|z
   ·obtain ⟨q,hq,rfl⟩:=aaD.mp z
    have lq:=hl q hq
    refine⟨by simp [lq],?_,?_⟩
    ·rw [jE lq];exact Span.mem hq
    ·rw [jE lq,tM lq];exact hf q hq
   ·rw [aaw.mp z]
    refine⟨rfl,?_,?_⟩
    ·rw [jE (aI 5)];exact Span.zero
    ·rw [jE (aI 5),tM (aI 5),jD,Int.zero_sub];exact Int.dvd_neg.mpr (dvd_refl m)
 refine⟨g1.UP lT fun v hv=>(hT v hv).2,fun r hr=>?_,fun x hx=>?_,fun x hx hv=>?_⟩
 ·obtain ⟨v,hv,rfl⟩:=aaD.mp hr
  exact bx (lT v hv) aa8
 ·refine (hx (fun x=>x.length=5/\Span 5 st x/\VZ w m x) ⟨⟨aI 5,Span.zero,?_⟩,fun a b la lb ha hb=>⟨sub_len la lb,Span.sub la lb ha.2.1 hb.2.1,VZ.sub lw la lb ha.2.2 hb.2.2⟩⟩ fun r hr=>?_).2
  ·unfold VZ;rw [jD];exact aaW _
  ·obtain ⟨v,hv,rfl⟩:=aaD.mp hr
   obtain ⟨a,b,c⟩:=p6 v (e.2 v (hT v hv).1)
   rw [(hT v hv).2,Int.sub_zero] at c
   exact⟨bx a aa8,b,c⟩
 ·have lx:=hx.len hl
  have hm:Span 6 (valued f st m) (cz 5++[m]):=Span.mem (aau _ (.head _))
  have lm:(cz 5++[m]).length=6:=rfl
  have AN:∀ (r:List Int) (u v:Int),r.length=5->Span 6 (valued f st m) (r++[u])->m ∣ u - v->Span 6 (valued f st m) (r++[v]):=fun r u v lr hr hd=>by
   obtain ⟨c,hc⟩:=hd
   have:=Span.sub (by simp [lr]) (aF lm) hr (Span.mul lm hm c)
   rw [MG,EM lr (aF (aI 5))] at this
   have e1:sub r (bH (cz 5) c)=r:=bo (sub_len lr (aF (aI 5))) lr fun i _=>by rw [bB lr (aF (aI 5)),bt,ba,zero_mul,Int.sub_zero]
   rw [e1,show u - m*c=v by lia] at this
   exact this
  have hq:x.length=5/\Span 6 (valued f st m) (x++[dt x w]):=by
   refine hx (fun x=>x.length=5/\Span 6 (valued f st m) (x++[dt x w])) ⟨⟨aI 5,?_⟩,fun a b la lb ha hb=>⟨sub_len la lb,?_⟩⟩ fun r hr=>⟨hl r hr,?_⟩
   ·rw [jD];exact Span.zero (n:=6)
   ·have:=Span.sub (by simp [la]) (by simp [lb]) ha.2 hb.2
    rw [EM la lb] at this
    rwa [iM la lb lw]
   ·refine AN r (f r) _ (hl r hr) (Span.mem (aav _ (aaD.mpr ⟨r,hr,rfl⟩))) ?_
    have:=hf r hr
    rw [show f r - dt r w=-(dt r w - f r) by lia]
    exact Int.dvd_neg.mpr this
  have h0:Span 6 (valued f st m) (x++[0]):=AN x _ 0 lx hq.2 (by rw [Int.sub_zero];exact hv)
  have h1:=g2 _ (e.span h0) (tM lx)
  have:=Span.take (w:=5) aa8 h1
  rwa [jE lx] at this
structure Lo(ks:List (List Int×Int))(st:List (List Int)):Prop where
 sf:SF st
 len:Len 5 st
 all:∀ x,Span 5 st x↔x.length=5/\∀ k∈ks,VZ k.1 k.2 x
theorem Lo.next{m:Int}(h:Lo ks st)(k:eY st w m gm):Lo (ks++[(w,m)]) gm:=by
 refine⟨k.sf,k.len,fun x=>⟨fun hx=>?_,fun hx=>?_⟩⟩
 ·obtain ⟨h1,h2⟩:=k.to x hx
  obtain ⟨h3,h4⟩:=(h.all x).mp h1
  exact⟨h3,fun q hq=>(aax.mp hq).elim (h4 q) fun z=>by rw [aaw.mp z];exact h2⟩
 ·exact k.UN x ((h.all x).mpr ⟨hx.1,fun q hq=>hx.2 q (aav _ hq)⟩) (hx.2 (w,m) (aau _ (.head _)))
def fJ:List (List Int):=[bF 4 5,bF 3 5,bF 2 5,bF 1 5,bF 0 5]
theorem fK{k:Nat}(h:k<5):cG (bF k 5) k:=by
 refine⟨by rw [bN h,if_pos rfl];decide,fun i hi=>?_⟩
 by_cases c:i<5
 ·rw [bN c,if_neg aaa]
 ·rw [List.getD,getElem?_eq_none (by rw [bD];lia)];rfl
theorem nF{a b:Nat}(ha:a<5)(h:b<a):YM (bF a 5) (bF b 5):=fun k hk=>by
 have e:=hk.uniq (fK aaa)
 subst e
 refine⟨⟨a,h,fK ha⟩,?_,?_⟩
 ·rw [bN aaa,if_neg aaa];exact Int.le_refl _
 ·rw [bN aaa,if_neg aaa,bN aaa,if_pos rfl];decide
theorem AO:SF fJ:=by
 refine⟨fun r hr=>?_,?_⟩
 ·simp only [fJ,aaC,not_mem_nil,or_false] at hr
  rcases hr with rfl|rfl|rfl|rfl|rfl
  ·exact⟨_,fK aa8⟩
  ·exact⟨_,fK aa8⟩
  ·exact⟨_,fK aa8⟩
  ·exact⟨_,fK aa8⟩
  ·exact⟨_,fK aa8⟩
 ·unfold fJ
  refine .cons (fun r hr=>?_) (.cons (fun r hr=>?_) (.cons (fun r hr=>?_) (.cons (fun r hr=>?_) (.cons (fun r hr=>nomatch hr) .nil))))
  all_goals
   simp only [aaC,not_mem_nil,or_false] at hr
  ·rcases hr with rfl|rfl|rfl|rfl <;> exact nF aa8 aa8
  ·rcases hr with rfl|rfl|rfl <;> exact nF aa8 aa8
  ·rcases hr with rfl|rfl <;> exact nF aa8 aa8
  ·rcases hr with rfl;exact nF aa8 aa8
theorem oR:Len 5 fJ:=fun r hr=>by
 simp only [fJ,aaC,not_mem_nil,or_false] at hr
 rcases hr with rfl|rfl|rfl|rfl|rfl <;> exact bD _ _
theorem xH(h:x.length=5):Span 5 fJ x:=by
 have hm:∀ k,k<5->bF k 5∈fJ:=fun k hk=>by
  rcases (show k=0\/k=1\/k=2\/k=3\/k=4 by lia) with rfl|rfl|rfl|rfl|rfl <;> simp [fJ]
 have ht:∀ n,n<=5->∀ y:List Int,y.length=5->(∀ i,n<=i->y.getD i 0=0)->Span 5 fJ y:=by
  intro n
  induction n with
  | zero =>
   intro _ y ly hy
   have e:y=cz 5:=bo ly (aI 5) fun i _=>by rw [hy i (aa0 _),ba]
   rw [e]
   exact Span.zero
  | succ n ih =>
   intro hn y ly hy
   have lu:=bD n 5
   refine Span.OC (s:=bF n 5) (q:=y.getD n 0) ly lu (ih aaa _ (bO ly lu) fun i hi=>?_) (Span.mem (hm n aaa))
   rw [cm ly lu]
   by_cases c:i<5
   ·rw [bN c]
    by_cases d:i=n
    ·rw [if_pos d,d];lia
    ·rw [if_neg d,hy i aaa];lia
   ·rw [hy i aaa,List.getD,getElem?_eq_none (by rw [lu];lia)]
    simp
 exact ht 5 (aah _) x h fun i hi=>by rw [List.getD,getElem?_eq_none aaa];rfl
theorem Lo.start:Lo [] fJ:=⟨AO,oR,fun x=>⟨fun hx=>⟨hx.len oR,fun k hk=>nomatch hk⟩,fun hx=>xH hx.1⟩⟩
theorem AQ(sf:SF st)(hl:Len 5 st)(e:Eqv 5 ((List.range 5).map fun i=>bF i 5) st):st=fJ:=by
 refine SF.uniq sf AO hl oR ⟨fun r hr=>xH (hl r hr),fun r hr=>?_⟩
 refine e.span (Span.mem ?_)
 simp only [fJ,aaC,not_mem_nil,or_false] at hr
 rcases hr with rfl|rfl|rfl|rfl|rfl <;> exact aaD.mpr ⟨_,aaM.mpr aa8,rfl⟩
def lb(W:Nat):Nat->Nat
 | 0=>0
 | i+1=>3*lb W i+2*W+12
theorem EO{α:Type}{r:List α}(h:r.length=5):∃ a b c d e,r=[a,b,c,d,e]:=by
 match r,h with
 | [a,b,c,d,e],_=>exact⟨a,b,c,d,e,rfl⟩
theorem nG{x y:Int}{m n:Nat}(h:x.natAbs<=m)(k:y.natAbs<=n):(x+y).natAbs<=m+n:=aag (Int.natAbs_add_le _ _) (add_le_add h k)
theorem yy{b W:Nat}(lr:r.length=5)(lw:w.length=5)(hr:bY (2 ^ b) r)(hw:bY (2 ^ W) w):(dt r w).natAbs<=2 ^ (W+b+3):=by
 have hp:∀ i,(r.getD i 0*w.getD i 0).natAbs<=2 ^ b*2 ^ W:=fun i=>by
  rw [aaV]
  exact aaI (hr i) (hw i)
 obtain ⟨a0,a1,a2,a3,a4,e1⟩:=EO lr
 obtain ⟨b0,b1,b2,b3,b4,e2⟩:=EO lw
 subst e1
 subst e2
 have e:(2:Nat) ^ (W+b+3)=8*(2 ^ b*2 ^ W):=by rw [pow_add,pow_add,Nat.mul_comm (2 ^ W),Nat.mul_comm _ (2 ^ 3)]
 rw [e]
 exact aag (nG (hp 0) (nG (hp 1) (nG (hp 2) (nG (hp 3) (nG (hp 4) (aah 0)))))) aaa
theorem eY.bd{m:Int}{b W:Nat}(k:eY st w m gm)(sf:SF st)(hl:Len 5 st)(h5:st.length<=5)(lw:w.length=5)(hB:∀ r∈st,bY (2 ^ b) r)(hw:bY (2 ^ W) w)(hm:m.natAbs<=2 ^ W):∀ t∈gm,bY (2 ^ (3*b+2*W+12)) t:=fun t ht=>by
 by_cases c:m=0
 ·subst c
  refine (k.MF sf hl h5 lw hB (fun r hr=>yy (hl r hr) lw (hB r hr) hw) (aaZ _) t ht).mono (le_of_eq ?_)
  rw [show (64:Nat)=2 ^ 6 from rfl,<- pow_add,<- pow_add,<- pow_add]
  congr 1
  lia
 ·refine (k.ME sf hl lw hB c hm t ht).mono ?_
  have hc:cr st.length<=2 ^ 5:=by
   rcases (show st.length=0\/st.length=1\/st.length=2\/st.length=3\/st.length=4\/st.length=5 by lia) with e|e|e|e|e|e <;> rw [e] <;> decide
  refine aag (aaH _ hc) ?_
  rw [<- pow_add,<- pow_add]
  exact aaF aa8 aaa
end eL
namespace bz
open PySem PySem.Builtin PySem.Builtin.Str PySem.StrLaws
theorem oS{c i:Nat}:At z ⟨#[c]⟩ z.length i↔z.cps[i]?=some c:=by
 unfold At subAt
 show i+1<=z.cps.size/\(z.cps.extract i (i+1) == #[c])=true↔_
 constructor
 ·rintro ⟨h1,h2⟩
  have h3:=eq_of_beq h2
  have h4:(z.cps.extract i (i+1))[0]?=some c:=by rw [h3];rfl
  rw [Array.getElem?_extract] at h4
  split at h4
  ·simpa using h4
  ·cases h4
 ·intro h
  have hi:i<z.cps.size:=by
   rcases lt_or_ge i z.cps.size with h1|h1
   ·exact h1
   ·rw [Array.getElem?_eq_none h1] at h;cases h
  refine⟨hi,beq_iff_eq.mpr ?_⟩
  apply Array.ext
  ·rw [Array.size_extract];simp;lia
  ·intro j h1 h2
   have:j=0:=by simp at h2;lia
   subst this
   rw [Array.getElem_extract]
   rw [Array.getElem?_eq_getElem hi] at h
   simpa using h
theorem yA{hi limit:Nat}(h1:sub.length=1):∀ (l:List Nat) (found:Array Nat) (free:Nat),l.Pairwise (·<·)->(∀ i∈l,free<=i)->found.size+l.length<=limit ->
  ∃ q:List Nat,(forIn l (found,free) (occBody s sub hi limit)).run.fst.toList=found.toList++q/\q.Sublist l/\∀ i∈l,(i∈q↔At s sub hi i)
 | [],found,free,_,_,_=>⟨[],by simp,.slnil,fun i h=>nomatch h⟩
 | a::l,found,free,hp,hf,hn=>by
  rw [forIn_cons]
  unfold occBody
  have ha:free<=a:=hf a (.head _)
  rw [length_cons] at hn
  obtain ⟨Te,hp2⟩:=aa3.mp hp
  by_cases hc:At s sub hi a
  ·rw [if_pos ⟨⟨⟨by show found.size<limit;lia,ha⟩,hc.1⟩,hc.2⟩]
   obtain ⟨q,e,hs,hm⟩:=yA (limit:=limit) h1 l (found.push a) (a+sub.length) hp2 (fun i yB=>by have:=Te i yB;lia) (by rw [Array.size_push];lia)
   refine⟨a::q,?_,.cons_cons a hs,fun i yB=>?_⟩
   ·refine Eq.trans e ?_
    rw [Array.toList_push,List.append_assoc];rfl
   ·rcases aaC.mp yB with z|z
    ·subst z;exact⟨fun _=>hc,fun _=>.head _⟩
    ·have:=Te i z
     refine Iff.trans ⟨fun w=>?_,.tail _⟩ (hm i z)
     rcases aaC.mp w with y|y
     ·lia
     ·exact y
  ·rw [if_neg (fun h=>hc ⟨h.1.2,h.2⟩)]
   obtain ⟨q,e,hs,hm⟩:=yA (limit:=limit) h1 l found free hp2 (fun i yB=>hf i (.tail _ yB)) aaa
   refine⟨q,e,.cons a hs,fun i yB=>?_⟩
   rcases aaC.mp yB with z|z
   ·subst z
    refine⟨fun w=>?_,fun w=>absurd w hc⟩
    exact absurd (Te i (hs.subset w)) (Nat.lt_irrefl _)
   ·exact hm i z
theorem yC(z:Str)(c:Nat):∃ q:List Nat,occurrences z ⟨#[c]⟩ 0 z.length (z.length+1)=q/\q.Pairwise (·<·)/\∀ i:Nat,(i∈q↔z.cps[i]?=some c):=by
 obtain ⟨q,e,hs,hm⟩:=yA (s:=z) (sub:=⟨#[c]⟩) (hi:=z.length) (limit:=z.length+1) rfl (List.range' 0 (z.length+1 - 0)) #[] 0 (List.pairwise_lt_range' ..) (fun _ _=>aa0 _) (by simp)
 refine⟨q,by rw [occ_eq];exact e.trans (by simp),(List.pairwise_lt_range' ..).sublist hs,fun i=>?_⟩
 rw [<- oS]
 constructor
 ·intro h
  exact (hm i (hs.subset h)).mp h
 ·intro h
  refine (hm i ?_).mpr h
  have:=h.1
  simp [List.mem_range']
  lia
theorem AR(z:Str)(c:Nat):((∀ i:Nat,z.cps[i]?≠some c)/\occurrences z ⟨#[c]⟩ 0 z.length 1=[])\/∃ i r,occurrences z ⟨#[c]⟩ 0 z.length 1=i::r/\z.cps[i]?=some c/\∀ k:Nat,k<i->z.cps[k]?≠some c:=by
 rcases occ_head z ⟨#[c]⟩ 1 (aah _) with ⟨h1,h2⟩|⟨i,r,h1,h2,h3⟩
 ·exact .inl ⟨fun i h=>h2 i (oS.mpr h),h1⟩
 ·exact .inr ⟨i,r,h1,oS.mp h2,fun k hk h=>h3 k hk (oS.mpr h)⟩
end bz
namespace bz
open PySem PySem.Builtin PySem.Builtin.Str PySem.StrLaws
def F1(c:Nat):Bool:=decide (48<=c) && decide (c<=57)
def digits:Str:=⟨#[48,49,50,51,52,53,54,55,56,57]⟩
theorem F2(c:Nat):(!(occurrences digits ⟨#[c]⟩ 0 digits.length 1).isEmpty)=F1 c:=by
 rw [Bool.eq_iff_iff,found_iff]
 have h1:(∃ i,i+Str.length ⟨#[c]⟩<=digits.length/\subAt digits ⟨#[c]⟩ i=true)↔∃ i:Nat,digits.cps[i]?=some c:=exists_congr fun i=>oS (z:=digits) (c:=c) (i:=i)
 rw [h1]
 unfold F1
 rw [Bool.and_eq_true,decide_eq_true_eq,decide_eq_true_eq]
 constructor
 ·rintro ⟨i,h⟩
  have hi:i<10:=by
   rcases lt_or_ge i 10 with h1|h1
   ·exact h1
   ·rw [Array.getElem?_eq_none (show digits.cps.size<=i from h1)] at h;cases h
  have h2:digits.cps[i]?=some (48+i):=by
   rcases (show i=0\/i=1\/i=2\/i=3\/i=4\/i=5\/i=6\/i=7\/i=8\/i=9 by lia) with rfl|rfl|rfl|rfl|rfl|rfl|rfl|rfl|rfl|rfl <;> rfl
  rw [h2] at h
  injection h
  lia
 ·rintro ⟨h,h'⟩
  refine⟨c - 48,?_⟩
  rcases (show c=48\/c=49\/c=50\/c=51\/c=52\/c=53\/c=54\/c=55\/c=56\/c=57 by lia) with rfl|rfl|rfl|rfl|rfl|rfl|rfl|rfl|rfl|rfl <;> rfl
def cnt(z:Str)(m:Nat):Bool:=(decide (1<=z.length/\z.length<=m) && (z.cps[0]? != some 48)) && z.cps.toList.all F1
abbrev aO:Str:=⟨#[47]⟩
theorem kind_le(z:Str):¬ Builtin.Str.strKind z<Builtin.Str.strKind aO:=by
 have h:Builtin.Str.strKind aO=1:=by simp [Builtin.Str.strKind]
 rw [h]
 unfold Builtin.Str.strKind
 split
 ·decide
 ·split <;> decide
theorem ql(z:Str):(∃ top bot,Txt.partition z aO=(top,aO,bot)/\(Txt.split z aO=[top,bot]\/((Txt.split z aO).length≠2/\bot.cps.toList.all F1=false)))\/(Txt.partition z aO=(z,Str.empty,Str.empty)/\Txt.split z aO=[z]):=by
 obtain ⟨q,hq,hs,hm⟩:=yC z 47
 rcases AR z 47 with ⟨h1,h2⟩|⟨i,r,h1,h2,h3⟩
 ·have YS:q=[]:=List.eq_nil_iff_forall_not_mem.mpr fun i hi=>h1 i ((hm i).mp hi)
  refine .inr ⟨?_,?_⟩
  ·unfold Txt.partition;rw [h2]
  ·unfold Txt.split;rw [hq,YS]
   split
   ·rfl
   ·rfl
 ·have hi:i<z.length:=by
   rcases lt_or_ge i z.cps.size with h|h
   ·exact h
   ·rw [Array.getElem?_eq_none h] at h2;cases h2
  obtain ⟨r',rfl⟩:∃ r',q=i::r':=by
   have hiq:=(hm i).mpr h2
   cases q with
   | nil=>cases hiq
   | cons a t =>
    have ha:z.cps[a]?=some 47:=(hm a).mp (.head _)
    have:¬ a<i:=fun h=>h3 a h ha
    rcases aaC.mp hiq with e|e
    ·exact⟨t,by rw [e]⟩
    ·have:=(aa3.mp hs).1 i e
     lia
  have lX:Txt.split z aO=partsBetween z (i::r') 1:=by
   unfold Txt.split
   rw [hq,if_neg (by
    rw [Bool.or_eq_true,decide_eq_true_eq,decide_eq_true_eq]
    rintro (h|h)
    ·have:Str.length aO=1:=rfl
     lia
    ·exact kind_le z h),if_neg (by simp)]
   rfl
  refine .inl ⟨strSub z 0 i,strSub z (i+1) z.length,?_,?_⟩
  ·unfold Txt.partition;rw [h1];rfl
  ·rw [lX]
   cases r' with
   | nil=>exact .inl rfl
   | cons j t =>
    refine .inr ⟨by simp [partsBetween],?_⟩
    have hij:=(aa3.mp hs).1 j (.head _)
    have hj:z.cps[j]?=some 47:=(hm j).mp (.tail _ (.head _))
    have YT:j<z.cps.size:=by
     rcases lt_or_ge j z.cps.size with h|h
     ·exact h
     ·rw [Array.getElem?_eq_none h] at hj;cases hj
    rw [Bool.eq_false_iff]
    intro ni
    have iK:47∈(strSub z (i+1) z.length).cps.toList:=by
     have:(strSub z (i+1) z.length).cps[j - (i+1)]?=some 47:=by
      show (z.cps.extract (i+1) z.cps.size)[j - (i+1)]?=some 47
      rw [Array.getElem?_extract,if_pos aaa,show i+1+(j - (i+1))=j by lia]
      exact hj
     rw [<- Array.getElem?_toList] at this
     exact aay this
    exact absurd (all_eq_true.mp ni 47 iK) aa8
end bz
namespace bz
open PySem PySem.Builtin PySem.Builtin.Str PySem.StrLaws PySem.NumText PySem.W.KIN PyProof.Rows
theorem ER{z:Str}(h:z.cps.toList.all F1=true):AllDigits z.cps.toList:=fun c hc=>by
 have:=all_eq_true.mp h c hc
 unfold F1 at this
 rw [Bool.and_eq_true,decide_eq_true_eq,decide_eq_true_eq] at this
 exact this
theorem Jl:∀ (cs:List Nat) (a:Nat),a<=cs.foldl (fun acc c=>acc*10+(c - 48)) a
 | [],a=>aah _
 | c::cs,a=>aag aaa (Jl cs (a*10+(c - 48)))
theorem Jm:∀ (cs:List Nat) (a:Nat),AllDigits cs->cs.foldl (fun acc c=>acc*10+(c - 48)) a<(a+1)*10 ^ cs.length
 | [],a,_=>by simp
 | c::cs,a,h=>by
  have h1:=h c (.head _)
  refine Nat.lt_of_lt_of_le (Jm cs _ fun d hd=>h d (.tail _ hd)) ?_
  rw [length_cons,pow_succ,Nat.mul_comm (10 ^ cs.length) 10,<- mul_assoc]
  have h2:a*10+(c - 48)+1<=(a+1)*10:=by lia
  exact aaH _ h2
def num(z:Str):Nat:=digitsVal z.cps.toList
theorem fw{m:Nat}(h:cnt z m=true)(hm:m<=600):PySem.intText? z=some ((num z:Nat):Int)/\0<num z/\num z<10 ^ m/\z.length<=m:=by
 unfold cnt at h
 rw [Bool.and_eq_true,Bool.and_eq_true,decide_eq_true_eq] at h
 obtain ⟨⟨⟨h1,h2⟩,h3⟩,h4⟩:=h
 have hd:=ER h4
 have hl:z.cps.toList.length=z.length:=Array.length_toList
 have rK:z.cps.toList≠[]:=fun e=>by rw [e] at hl;simp at hl;lia
 refine⟨intText_digits hd rK aaa,?_,?_,h2⟩
 ·unfold num digitsVal
  have h0:z.cps.toList[0]?≠some 48:=by
   rw [Array.getElem?_toList]
   simpa using h3
  generalize z.cps.toList=cs at h0 hd rK
  cases cs with
  | nil=>exact absurd rfl rK
  | cons c cs =>
   have hc:=hd c (.head _)
   have:c≠48:=fun e=>h0 (by rw [e];rfl)
   exact Nat.lt_of_lt_of_le (show 0<0*10+(c - 48) by lia) (Jl cs _)
 ·have:=Jm z.cps.toList 0 hd
  unfold num digitsVal
  refine Nat.lt_of_lt_of_le this ?_
  rw [zero_add,one_mul]
  exact aaF aa8 aaa
abbrev lJ(n:Nat):Str:=PySem.Str.ofString (toString ((n:Nat):Int))
theorem Jn:∀ m:Nat,0<m->((Nat.toDigits 10 m).map Char.toNat)[0]?≠some 48:=by
 intro m
 induction m using Nat.strongRecOn with
 | _ m ih =>
  intro hm
  by_cases h:m<10
  ·rw [Nat.toDigits_of_lt_base h]
   rcases (show m=1\/m=2\/m=3\/m=4\/m=5\/m=6\/m=7\/m=8\/m=9 by lia) with rfl|rfl|rfl|rfl|rfl|rfl|rfl|rfl|rfl <;> decide
  ·have lC:m % 10<10:=mod_lt m aa8
   have t:Nat.toDigits 10 (m / 10)++Nat.toDigits 10 (m % 10)=Nat.toDigits 10 (10*(m / 10)+m % 10):=Nat.toDigits_append_toDigits aa8 aaa lC
   rw [Nat.div_add_mod] at t
   have:=ih (m / 10) aaa aaa
   rw [<- t,aaR,List.getElem?_append]
   split
   ·exact this
   ·rename_i hl
    rw [getElem?_eq_none aaa] at this
    intro _
    have h1:=digitsVal
    have hv:=val_back (m / 10)
    rw [List.eq_nil_of_length_eq_zero (show ((Nat.toDigits 10 (m / 10)).map Char.toNat).length=0 by lia)] at hv
    have:(0:Nat)=m / 10:=hv
    lia
theorem yD:∀ (k m:Nat),0<k->m<10 ^ k->(Nat.toDigits 10 m).length<=k
 | 0,_,h,_=>absurd h aa8
 | 1,m,_,h=>by rw [Nat.toDigits_of_lt_base (by simpa using h)];exact aah _
 | k+2,m,_,h=>by
  by_cases h10:m<10
  ·rw [Nat.toDigits_of_lt_base h10];simp
  ·have lC:m % 10<10:=mod_lt m aa8
   have t:Nat.toDigits 10 (m / 10)++Nat.toDigits 10 (m % 10)=Nat.toDigits 10 (10*(m / 10)+m % 10):=Nat.toDigits_append_toDigits aa8 aaa lC
   rw [Nat.div_add_mod] at t
   have:=yD (k+1) (m / 10) aaa (by rw [pow_succ] at h;lia)
   rw [<- t,aaA,Nat.toDigits_of_lt_base lC]
   show _+1<=_
   lia
theorem nH{n m:Nat}(h0:0<n)(hm:0<m)(h:n<10 ^ m):cnt (lJ n) m=true/\num (lJ n)=n:=by
 have hs:=signs_num n
 have hl:(lJ n).length=(Nat.toDigits 10 n).length:=by
  show (lJ n).cps.size=_
  rw [<- Array.length_toList,hs,aaz]
 have h2:=yD m n hm h
 refine⟨?_,?_⟩
 ·unfold cnt
  rw [Bool.and_eq_true,Bool.and_eq_true,decide_eq_true_eq]
  have OF:1<=(Nat.toDigits 10 n).length:=by
   have hv:=val_back n
   rcases eq_zero_or_pos (Nat.toDigits 10 n).length with e|e
   ·rw [List.eq_nil_of_length_eq_zero e] at hv
    have:(0:Nat)=n:=hv
    lia
   ·exact e
  refine⟨⟨⟨aaa,aaa⟩,?_⟩,?_⟩
  ·rw [bne_iff_ne,<- Array.getElem?_toList,hs]
   exact Jn n h0
  ·rw [hs,all_eq_true]
   intro c hc
   obtain ⟨ch,Ac,e⟩:=aaD.mp hc
   have r:=digit_range (Nat.isDigit_of_mem_toDigits aa8 aa8 Ac)
   unfold F1
   rw [Bool.and_eq_true,decide_eq_true_eq,decide_eq_true_eq,<- e]
   exact r
 ·unfold num
  rw [hs]
  exact val_back n
theorem nI{m:Nat}(h:cnt z m=true)(i:Nat):z.cps[i]?≠some 47:=fun e=>by
 unfold cnt at h
 rw [Bool.and_eq_true] at h
 have hm:47∈z.cps.toList:=aay (i:=i) (by rw [Array.getElem?_toList];exact e)
 exact absurd (all_eq_true.mp h.2 47 hm) aa8
theorem F3{m:Nat}(ha:cnt a m=true)(hb:cnt b m=true):Txt.partition (a++aO++b) aO=(a,aO,b)/\Txt.split (a++aO++b) aO=[a,b]:=by
 have hz:(a++aO++b).cps=a.cps++#[47]++b.cps:=rfl
 have hn:(a++aO++b).length=a.length+1+b.length:=by
  show (a++aO++b).cps.size=_
  rw [hz,Array.size_append,Array.size_append];rfl
 have AF:∀ i:Nat,(a++aO++b).cps[i]?=some 47↔i=a.length:=fun i=>by
  rw [hz,Array.getElem?_append,Array.getElem?_append]
  constructor
  ·intro h
   split at h
   ·split at h
    ·exact absurd h (nI ha i)
    ·rename_i h1 h2
     rw [Array.size_append] at h1
     have:i<a.cps.size+1:=h1
     show i=a.cps.size
     lia
   ·exact absurd h (nI hb _)
  ·intro h
   have h':i=a.cps.size:=h
   rw [if_pos (by rw [Array.size_append];show i<a.cps.size+1;lia),if_neg aaa,h',sub_self]
   rfl
 have OG:strSub (a++aO++b) 0 a.length=a:=by
  show (⟨(a++aO++b).cps.extract 0 a.cps.size⟩:Str)=a
  rw [hz,Array.append_assoc,Array.extract_append_left]
  simp
 have OH:strSub (a++aO++b) (a.length+1) (a++aO++b).length=b:=by
  show (⟨(a++aO++b).cps.extract (a.cps.size+1) (a++aO++b).cps.size⟩:Str)=b
  rw [hz]
  have:a.cps.size+1=(a.cps++#[47]).size:=by simp
  rw [this]
  generalize a.cps++#[47]=x
  have h0:x.extract x.size (x++b.cps).size=#[]:=Array.extract_empty_of_size_le_start (aah _)
  rw [Array.extract_append,h0]
  simp
 obtain ⟨q,hq,hs,hm⟩:=yC (a++aO++b) 47
 have YU:q=[a.length]:=by
  have h1:∀ i∈q,i=a.length:=fun i hi=>(AF i).mp ((hm i).mp hi)
  have h2:a.length∈q:=(hm _).mpr ((AF _).mpr rfl)
  cases q with
  | nil=>cases h2
  | cons x t =>
   have e:=h1 x (.head _)
   cases t with
   | nil=>rw [e]
   | cons y t =>
    have e2:=h1 y (.tail _ (.head _))
    have:=(aa3.mp hs).1 y (.head _)
    lia
 refine⟨?_,?_⟩
 ·unfold Txt.partition
  rcases AR (a++aO++b) 47 with ⟨h1,h2⟩|⟨i,r,h1,h2,h3⟩
  ·exact absurd ((AF a.length).mpr rfl) (h1 _)
  ·rw [h1]
   have:=(AF i).mp h2
   subst this
   show (strSub _ 0 _,aO,strSub _ (a.length+1) _)=_
   rw [OG,OH]
 ·unfold Txt.split
  rw [hq,YU,if_neg (by
   rw [Bool.or_eq_true,decide_eq_true_eq,decide_eq_true_eq]
   rintro (h|h)
   ·have:Str.length aO=1:=rfl
    lia
   ·exact kind_le _ h),if_neg (by simp)]
  show [strSub _ 0 _,strSub _ (a.length+1) _]=_
  rw [OG,OH]
end bz
namespace bz
open PySem PySem.Builtin PySem.Builtin.Str PySem.StrLaws
theorem MH{c d:Nat}:(⟨#[c]⟩:Str)=⟨#[d]⟩↔c=d:=by
 constructor
 ·intro h
  injection h with h
  simpa using h
 ·rintro rfl;rfl
theorem str0:Str.ofString "0"=⟨#[48]⟩:=by decide
theorem UR:Str.ofString "0123456789"=digits:=by decide
theorem QC:Str.ofString "/"=aO:=by decide
theorem xI{m:Nat}(h:¬ 1<=z.length):cnt z m=false:=by
 unfold cnt;rw [aam (fun h'=>h h'.1)];rfl
theorem Jo{m:Nat}(h:¬ z.length<=m):cnt z m=false:=by
 unfold cnt;rw [aam (fun h'=>h h'.2)];rfl
theorem tO{m:Nat}(h:z.cps[0]?=some 48):cnt z m=false:=by
 unfold cnt;rw [h];simp
theorem MI{m c:Nat}(h1:1<=z.length)(h2:z.length<=m)(h3:z.cps[0]?=some c)(h4:c≠48):cnt z m=z.cps.toList.all F1:=by
 unfold cnt
 rw [aan ⟨h1,h2⟩,h3]
 have:(some c != some 48)=true:=by simpa using h4
 rw [this];rfl
theorem YV{z:Str}(h:1<=z.length):∃ c,z.cps[0]?=some c:=⟨_,Array.getElem?_eq_getElem (show 0<z.cps.size from h)⟩
theorem F4(l:List Nat):(List.range l.length).map (fun i=>(l[i]?).getD 0)=l:=by
 apply ext_getElem
 ·simp
 ·intro i h1 h2
  simp [h2]
theorem all_range(z:Str):((List.range z.cps.size).map fun i=>F1 ((z.cps[i]?).getD 0)).all id=z.cps.toList.all F1:=by
 have h:=F4 z.cps.toList
 rw [Array.length_toList] at h
 conv=>rhs;rw [<- h]
 rw [all_map,all_map]
 congr 1
 funext i
 simp
theorem MJ{m:Nat}(h:z.cps.toList.all F1=false):cnt z m=false:=by
 unfold cnt;rw [h,Bool.and_false]
theorem sub_len(z:Str)(i j:Nat):(strSub z i j).length<=z.length:=by
 show (z.cps.extract i j).size<=z.cps.size
 rw [Array.size_extract];lia
theorem Jp(z y:Str):(Txt.partition z y).1.length<=z.length/\(Txt.partition z y).2.2.length<=z.length:=by
 unfold Txt.partition
 split
 ·exact⟨sub_len _ _ _,sub_len _ _ _⟩
 ·exact⟨aah _,aa0 _⟩
theorem AS:∀ (q:List Nat) (lo n:Nat),q.Pairwise (·<·)->(∀ i∈q,lo<=i/\i<n)->q.length<=n - lo
 | [],_,_,_,_=>aa0 _
 | a::q,lo,n,hp,hq=>by
  have h1:=aa3.mp hp
  have ha:=hq a (.head _)
  have:=AS q (a+1) n h1.2 fun i hi=>⟨h1.1 i hi,(hq i (.tail _ hi)).2⟩
  rw [length_cons]
  lia
theorem F5(z:Str)(w:Nat):∀ q:List Nat,(partsBetween z q w).length=q.length+1:=by
 intro q
 simp [partsBetween]
theorem split_len(z:Str):(Txt.split z aO).length<=z.length+1:=by
 obtain ⟨q,hq,hs,hm⟩:=yC z 47
 have hl:q.length<=z.length:=by
  refine AS q 0 z.length hs fun i hi=>⟨aa0 _,?_⟩
  have:=(hm i).mp hi
  rcases lt_or_ge i z.cps.size with h|h
  ·exact h
  ·rw [Array.getElem?_eq_none h] at this;cases this
 unfold Txt.split
 rw [hq]
 split
 ·simp
 ·split
  ·simp
  ·rw [F5];lia
def CU(z:Str)(m:Nat):Option (Nat×Nat):=match Txt.split z aO with
 | [a,b]=>if (cnt a m && cnt b m)=true then some (num a,num b) else none
 | _=>none
theorem yE{m:Nat}(h:Txt.split z aO=[a,b]):CU z m=if (cnt a m && cnt b m)=true then some (num a,num b) else none:=by
 unfold CU;rw [h]
theorem yF{m:Nat}(h:(Txt.split z aO).length≠2):CU z m=none:=by
 unfold CU
 split
 ·rename_i a b e
  rw [e] at h
  exact absurd rfl h
 ·rfl
theorem QD(h:(Txt.split z aO).length=2):∃ a b,Txt.split z aO=[a,b]/\a.length<=z.length/\b.length<=z.length:=by
 rcases ql z with ⟨a,b,h1,h2|h2⟩|⟨_,h2⟩
 ·have:=Jp z aO
  rw [h1] at this
  exact⟨a,b,h2,this⟩
 ·exact absurd h h2.1
 ·rw [h2] at h;cases h
theorem Jq(z:Str)(m:Nat):CU z m=if (cnt (Txt.partition z aO).1 m && cnt (Txt.partition z aO).2.2 m)=true then some (num (Txt.partition z aO).1,num (Txt.partition z aO).2.2) else none:=by
 rcases ql z with ⟨a,b,h1,h2|h2⟩|⟨h1,h2⟩
 ·rw [yE h2,h1]
 ·rw [yF h2.1,h1]
  show none=if (cnt a m && cnt b m)=true then _ else _
  rw [MJ h2.2,Bool.and_false];rfl
 ·rw [yF (by rw [h2];exact Nat.noConfusion ∘ Nat.succ.inj),h1]
  show none=if (cnt z m && cnt Str.empty m)=true then _ else _
  rw [xI (z:=Str.empty) aa8,Bool.and_false];rfl
theorem Jr{m t b:Nat}(hm:m<=600)(h:CU z m=some (t,b)):0<t/\t<10 ^ m/\0<b/\b<10 ^ m:=by
 rw [Jq] at h
 split at h
 ·rename_i hc
  rw [Bool.and_eq_true] at hc
  have h1:=fw hc.1 hm
  have h2:=fw hc.2 hm
  cases h
  exact⟨h1.2.1,h1.2.2.1,h2.2.1,h2.2.2.1⟩
 ·cases h
theorem Js{t b m:Nat}(h0:0<m)(ht:0<t/\t<10 ^ m)(hb:0<b/\b<10 ^ m):CU (lJ t++aO++lJ b) m=some (t,b):=by
 have h1:=nH ht.1 h0 ht.2
 have h2:=nH hb.1 h0 hb.2
 rw [yE (F3 h1.1 h2.1).2,h1.1,h2.1,h1.2,h2.2];rfl
theorem eV{n m:Nat}(hm:0<m)(h:n<10 ^ m):(lJ n).length<=m:=by
 have hs:=PySem.W.KIN.signs_num n
 show (lJ n).cps.size<=m
 rw [<- Array.length_toList,hs,aaz]
 exact yD m n hm h
end bz
namespace bz
open PySem PySem.Builtin PySem.Builtin.Str PySem.StrLaws PySem.NumText PySem.W.KIN PyProof.Rows
theorem QE{i:Int}(h:0<=i):Str.ofString (toString i)=lJ i.toNat:=by
 obtain ⟨n,rfl⟩:=eq_ofNat_of_zero_le h
 rfl
theorem CV{i:Int}(h:i.natAbs<2 ^ 1920):i.natAbs.log2<1920:=by
 rcases eq_zero_or_pos i.natAbs with e|e
 ·rw [e];decide
 ·exact (log2_lt aaa).mpr h
end bz
namespace kI
open PySem PySem.Builtin PySem.Builtin.Str PySem.StrLaws PyProof.Rows
theorem Jt{i:Nat}:(Txt.slice z (some (i:Int)) none).cps.toList=z.cps.toList.drop i:=by
 have hl:z.cps.toList.length=z.length:=Array.length_toList
 by_cases h:i<=z.length
 ·rw [slice_from_eq (b:=(z.length:Int)) aaa aaa rfl]
  show (List.take _ (List.drop _ z.cps.toList)).toArray.toList=_
  rw [toList_toArray,show (i:Int).toNat=i from rfl,aaU (by rw [length_drop];lia)]
 ·rw [slice_beyond aaa,drop_of_length_le aaa]
  rfl
def AU(y:Str)(m:Nat):Option Int :=
 if y=⟨#[48]⟩ then some 0 else if y.cps[0]?=some 45 then (if bz.cnt ⟨(y.cps.toList.drop 1).toArray⟩ m=true then some (-((bz.num ⟨(y.cps.toList.drop 1).toArray⟩:Nat):Int)) else none) else if bz.cnt y m=true then some ((bz.num y:Nat):Int) else none
end kI
namespace kI
open PySem PySem.Builtin PySem.Builtin.Str PySem.StrLaws PySem.NumText PySem.W.KIN PyProof.Rows
theorem MK{m:Nat}{o:Int}(hm:m<=600)(h:AU y m=some o):PySem.intText? y=some o/\y.length<=m+1:=by
 unfold AU at h
 split at h
 ·rename_i e
  cases h
  subst e
  exact⟨TH,by show 1<=m+1;lia⟩
 ·split at h
  ·rename_i QF
   split at h
   ·rename_i hc
    cases h
    have hr:=bz.fw hc hm
    have e1:y.cps.toList=45::y.cps.toList.drop 1:=by
     rw [<- Array.getElem?_toList] at QF
     cases hy:y.cps.toList with
     | nil=>rw [hy] at QF;cases QF
     | cons a t=>rw [hy] at QF;cases QF;rfl
    have hl:y.length=(y.cps.toList.drop 1).length+1:=by
     show y.cps.size=_
     rw [<- Array.length_toList]
     conv=>lhs;rw [e1]
     rfl
    have Iv:(⟨(y.cps.toList.drop 1).toArray⟩:Str).length=(y.cps.toList.drop 1).length:=by
     show (y.cps.toList.drop 1).toArray.size=_
     rw [aaP]
    unfold bz.cnt at hc
    rw [Bool.and_eq_true,Bool.and_eq_true,decide_eq_true_eq] at hc
    obtain ⟨⟨⟨c1,c2⟩,c3⟩,c4⟩:=hc
    have hd:=bz.ER c4
    rw [show (⟨(y.cps.toList.drop 1).toArray⟩:Str).cps.toList=y.cps.toList.drop 1 from toList_toArray ..] at hd
    refine⟨?_,aaa⟩
    rw [intText_neg e1 hd (fun e=>by rw [Iv,e] at c1;exact absurd c1 aa8) aaa]
    unfold bz.num
    rw [show (⟨(y.cps.toList.drop 1).toArray⟩:Str).cps.toList=y.cps.toList.drop 1 from toList_toArray ..]
   ·cases h
  ·split at h
   ·rename_i hc
    cases h
    have hr:=bz.fw hc hm
    exact⟨hr.1,aaa⟩
   ·cases h
theorem qm(l:List Nat):(⟨l.toArray⟩:Str).cps.toList=l:=toList_toArray ..
theorem yG{y z:Str}(h:y.cps.toList=z.cps.toList):y=z:=by
 cases y;cases z
 congr 1
 exact Array.ext' h
theorem Ju(y:Str):(decide (0+(Str.ofString "-").length<=y.length) && subAt y (Str.ofString "-") 0)=decide (y.cps[0]?=some 45):=by
 have e:Str.ofString "-"=⟨#[45]⟩:=by decide
 rw [e,Bool.eq_iff_iff,Bool.and_eq_true,decide_eq_true_eq,decide_eq_true_eq]
 exact bz.oS (z:=y) (c:=45) (i:=0)
end kI
namespace kI
open PySem PySem.Builtin PySem.Builtin.Str PySem.StrLaws PyProof.Rows
theorem ML(z:Str)(p:Nat):Txt.slice z (some ((p:Int)+1)) none=⟨(z.cps.toList.drop (p+1)).toArray⟩:=by
 apply yG
 rw [qm]
 exact Jt (i:=p+1)
end kI
namespace kI
open PySem PySem.NumText PySem.W.KIN PyProof.Rows
theorem app_list(a b:Str):(a++b).cps.toList=a.cps.toList++b.cps.toList:=by
 show (a.cps++b.cps).toList=_
 rw [Array.toList_append]
theorem AV(n:Nat):(Str.ofString (toString (-((n+1:Nat):Int)))).cps.toList=45::(bz.lJ (n+1)).cps.toList:=by
 rw [signs_num,signs_ofString]
 show ("-"++Nat.repr (n+1)).toList.map Char.toNat=_
 rw [String.toList_append,aaR,Nat.toList_repr]
 rfl
theorem yH{o:Int}(h1:-9999<=o)(h2:o<=9999):AU (Str.ofString (toString o)) 4=some o/\(Str.ofString (toString o)).length<=5:=by
 rcases Int.lt_trichotomy o 0 with h|h|h
 ·obtain ⟨n,rfl⟩:∃ n:Nat,o=-((n+1:Nat):Int):=⟨(-o).toNat - 1,aaa⟩
  have hl:=AV n
  have ht:=bz.nH (n:=n+1) (m:=4) aaa aa8 aaa
  have hs:=bz.eV (n:=n+1) (m:=4) aa8 aaa
  have hlen:(Str.ofString (toString (-((n+1:Nat):Int)))).length=(bz.lJ (n+1)).length+1:=by
   show (Str.ofString (toString (-((n+1:Nat):Int)))).cps.size=_
   rw [<- Array.length_toList,hl,length_cons,Array.length_toList]
   rfl
  refine⟨?_,aaa⟩
  have hd:(⟨((Str.ofString (toString (-((n+1:Nat):Int)))).cps.toList.drop 1).toArray⟩:Str)=bz.lJ (n+1):=by
   apply yG
   rw [qm,hl]
   rfl
  unfold AU
  rw [if_neg (fun e=>by rw [e] at hl;cases hl),if_pos (by rw [<- Array.getElem?_toList,hl];rfl),hd,ht.1,ht.2,if_pos rfl]
 ·subst h
  exact⟨TH,TH⟩
 ·obtain ⟨n,rfl⟩:=eq_ofNat_of_zero_le (Int.le_of_lt h)
  have ht:=bz.nH (n:=n) (m:=4) aaa aa8 aaa
  have hs:=bz.eV (n:=n) (m:=4) aa8 aaa
  have QF:(bz.lJ n).cps[0]?≠some 45:=fun e=>by
   have hc:=ht.1
   unfold bz.cnt at hc
   rw [Bool.and_eq_true] at hc
   have hm:45∈(bz.lJ n).cps.toList:=aay (i:=0) (by rw [Array.getElem?_toList];exact e)
   exact absurd (all_eq_true.mp hc.2 45 hm) aa8
  have h48:bz.lJ n≠⟨#[48]⟩:=fun e=>by
   have hc:=ht.1
   rw [e,bz.tO (by rfl)] at hc
   cases hc
  refine⟨?_,aag hs aa8⟩
  unfold AU
  rw [show Str.ofString (toString ((n:Nat):Int))=bz.lJ n from rfl,if_neg h48,if_neg QF,ht.1,ht.2,if_pos rfl]
end kI
namespace eL
def gens(ms:List Int)(rs:List (List Int)):List (List Int):=(List.range 5).map fun i=>bH (rs.getD i []) (ms.getD i 0)
end eL
namespace Gap
structure Sg(P:Int->Int->Prop):Prop where
 add:∀ {n j n' j':Int},P n j->P n' j'->P (n+n') (j+j')
 neg:∀ {n j:Int},P n j->P (-n) (-j)->False
 tot:∀ n j:Int,j≠0->P n j\/P (-n) (-j)
 oct:∀ {n:Int},P n 0->0<n
section
variable {P:Int->Int->Prop}{o:Int->Int}{N:Int}
structure Ch(P:Int->Int->Prop)(o:Int->Int)(N:Int):Prop where
 s:Sg P
 z:o 0=0
 f:∀ j,0<j->j<N->P (o j) j/\P (1 - o j) (-j)
variable (C:Ch P o N)
include C
variable {a b:Int}(a0:0<a)(a1:a<N)(mn:∀ j,0<j->j<N->j≠a->P (o j - o a) (j - a))(b0:0<b)(b1:b<N)(mx:∀ j,0<j->j<N->j≠b->P (o b - o j) (b - j))
include a0 a1 mn in
include a0 a1 mn in
include b0 b1 mx in
include b0 b1 mx in
include a0 a1 mn b0 b1 mx in
include a0 a1 mn b0 b1 mx in
def Nx(o:Int->Int)(a b k m:Int):Prop:=(m=k+a/\o m=o k+o a)\/(m=k - b/\o m=o k - o b+1)\/(m=k+a - b/\o m=o k+o a - o b+1)
include a0 a1 mn b0 b1 mx in
end
end Gap
namespace kI
open PySem
def J(c:Nat):List (List Nat)->List Nat
 | []=>[]
 | [x]=>x
 | x::y::r=>x++c::J c (y::r)
theorem Jv{c:Nat}:∀ {x y r s:List Nat},c∉x->c∉y->x++c::r=y++c::s->x=y/\r=s
 | [],[],r,s,_,_,h=>⟨rfl,(List.cons.inj h).2⟩
 | [],d::y,r,s,_,hy,h=>absurd (.head _) ((List.cons.inj h).1 ▸ hy)
 | d::x,[],r,s,hx,_,h=>absurd (.head _) ((List.cons.inj h).1 ▸ hx)
 | d::x,e::y,r,s,hx,hy,h=>by
  obtain ⟨h1,h2⟩:=List.cons.inj h
  obtain ⟨h3,h4⟩:=Jv (fun z=>hx (.tail _ z)) (fun z=>hy (.tail _ z)) h2
  exact⟨by rw [h1,h3],h4⟩
theorem OI{c:Nat}:∀ {a b:List (List Nat)},a≠[]->b≠[]->(∀ x∈a,c∉x)->(∀ x∈b,c∉x)->J c a=J c b->a=b
 | [],_,h,_,_,_,_=>absurd rfl h
 | _::_,[],_,h,_,_,_=>absurd rfl h
 | [x],[y],_,_,_,_,h=>by rw [show x=y from h]
 | [x],y::z::b,_,_,ha,_,h=>by
  have h:x=y++c::J c (z::b):=h
  exact absurd (by rw [h];simp) (ha x (.head _))
 | x::z::a,[y],_,_,_,hb,h=>by
  have h:x++c::J c (z::a)=y:=h
  exact absurd (by rw [<- h];simp) (hb y (.head _))
 | x::u::a,y::v::b,_,_,ha,hb,h=>by
  have h:x++c::J c (u::a)=y++c::J c (v::b):=h
  obtain ⟨h1,h2⟩:=Jv (ha x (.head _)) (hb y (.head _)) h
  rw [h1,OI (a:=u::a) (b:=v::b) (cons_ne_nil _ _) (cons_ne_nil _ _) (fun z hz=>ha z (.tail _ hz)) (fun z hz=>hb z (.tail _ hz)) h2]
theorem AW(c:Nat):∀ ws:List Str,(Str.join ⟨#[c]⟩ ws).cps.toList=J c (ws.map fun w=>w.cps.toList)
 | []=>rfl
 | [x]=>rfl
 | x::y::r=>by
  have ih:=AW c (y::r)
  show (x++⟨#[c]⟩++Str.join ⟨#[c]⟩ (y::r)).cps.toList=x.cps.toList++c::J c ((y::r).map fun w=>w.cps.toList)
  rw [<- ih]
  show ((x.cps++#[c])++(Str.join ⟨#[c]⟩ (y::r)).cps).toList=_
  simp
theorem MM{a b:List Str}(h:(a.map fun w=>w.cps.toList)=b.map fun w=>w.cps.toList):a=b:=by
 induction a generalizing b with
 | nil=>cases b with
  | nil=>rfl
  | cons y b=>cases h
 | cons x a ih=>cases b with
  | nil=>cases h
  | cons y b =>
   obtain ⟨h1,h2⟩:=List.cons.inj h
   rw [ih h2]
   rw [show x=y from Str.ext' (Array.toList_inj.mp h1)]
theorem CY{c:Nat}{ws:List Str}(h:ws≠[])(hf:∀ w∈ws,c∉w.cps.toList):Txt.split (Str.join ⟨#[c]⟩ ws) ⟨#[c]⟩=ws:=by
 have h1:=StrLaws.join_split (Str.join ⟨#[c]⟩ ws) ⟨#[c]⟩
 have h2:=StrLaws.split_free (Str.join ⟨#[c]⟩ ws) c
 have hn:Txt.split (Str.join ⟨#[c]⟩ ws) ⟨#[c]⟩≠[]:=by
  have:=split_pos (Str.join ⟨#[c]⟩ ws) ⟨#[c]⟩
  intro z
  rw [z] at this
  exact absurd this aa8
 generalize Txt.split (Str.join ⟨#[c]⟩ ws) ⟨#[c]⟩=ts at *
 have h3:=congrArg (fun s:Str=>s.cps.toList) h1
 simp only [AW] at h3
 refine MM (OI (c:=c) ?_ ?_ ?_ ?_ h3)
 ·simpa using hn
 ·simpa using h
 ·intro x hx
  obtain ⟨t,ht,rfl⟩:=aaD.mp hx
  exact h2 t ht
 ·intro x hx
  obtain ⟨t,ht,rfl⟩:=aaD.mp hx
  exact hf t ht
end kI
namespace eL
def eb:Nat->Nat->Nat
 | 0,e=>e
 | k+1,e=>eb k (2*e+1)
def YQ(w r:List Int):List Int:=r++[dt r w]
end eL
namespace L2
open PySem PySem.Spec PyProof.Rows
def qo(K:Frag)(a:Addr)(xs:List V):Prop:=∀ H,aC K H a xs
theorem qo.at{K:Frag}{a:Addr}{xs:List V}{H:Hp}(h:qo K a xs):aC K H a xs:=h H
theorem aj.lst(e:aj H H')(h:H a=some (.lst xs)):H' a=some (.lst xs):=e _ _ h
theorem aj.iO(s:aj H H2)(h:H l=none):aj H (upd H2 l o):=fun b u e=>by
 rw [ay (aJ e h)];exact s _ _ e
def US:V->Hp->(Bool->Hp->Prop)->Prop:=fun x H R=>∃ c,x=.bl c/\R c H
def UT:V->Hp->(Option Int->Hp->Prop)->Prop:=fun x H R=>∃ i,x=.int i/\R (some i) H
def OJ:List V->Hp->VK->Prop:=fun xs H Q=>xs.length<=sizeLine/\∀ p,H p=none->Q (.ref p) (upd H p (.tup xs))
def OK:List V->Hp->VK->Prop:=fun xs H Q=>xs.length<=sizeLine/\∀ p,H p=none->Q (.ref p) (upd H p (.lst xs))
def MN(K:Frag):List V->Hp->VK->Prop:=fun xs H Q=>∃ p ys,xs=[.ref p]/\(aP K H p ys\/aC K H p ys)/\Q (.int ys.length) H
def tP(K:Frag):List V->Hp->VK->Prop:=fun xs H Q=>∃ p ys,xs=[.ref p]/\((aP K H p ys/\∀ l,H l=none->Q (.ref l) (upd H l (.tup ys)))\/(aC K H p ys/\Q (.ref p) H))
def yI(K:Frag):List V->Hp->VK->Prop:=fun xs H Q=>∃ p ys,xs=[.ref p]/\(aP K H p ys\/aC K H p ys)/\∀ l,H l=none->Q (.ref l) (upd H l (.lst ys))
def gy(K:Frag):List V->Hp->VK->Prop:=fun xs H Q=>∃ x n t b,xs=[x,.ty n]/\TyR K H x t/\PySem.W.kitOne K t (.type n)=some b/\Q (.bl b) H
def UU:List V->Hp->VK->Prop:=fun xs H Q=>∃ i,xs=[.int i]/\Q (.int (if i<0 then -i else i)) H
def OL:List V->Hp->VK->Prop:=fun xs H Q=>(∃ i,xs=[.int i]/\Q (.int i) H)\/∃ k,xs=[.bl k]/\Q (.int (if k then 1 else 0)) H
def UW(K:Frag):V->Hp->(It->Hp->Prop)->Prop:=fun x H R=>∃ a,x=.ref a/\(∃ xs,aP K H a xs)/\R (LJ K a) H
def UX(K:Frag):V->Hp->(It->Hp->Prop)->Prop:=fun x H R=>∃ a,x=.ref a/\(∃ xs,aC K H a xs)/\R (HS K a) H
def UY:List V->Hp->(It->Hp->Prop)->Prop:=fun vs H R=>∃ j:Int,vs=[.int j]/\-(2 ^ 62)<=j/\j<2 ^ 62/\R (Fw 0 j.toNat) H
def UZ(K:Frag)(k1 k2:Bool):List V->Hp->(It->Hp->Prop)->Prop:=fun vs H R=>∃ a b,vs=[.ref a,.ref b]/\(∃ xs,Sq k1 K H a xs)/\(∃ ys,Sq k2 K H b ys)/\R (Mx K k1 k2 a b) H
def Jw(K:Frag)(T:String)(ts:TA)(r:V->List V->Hp->VK->Prop)(σ:St)(Q:VK):V->Hp->Prop:=fun x H1=>Xb K T x H1/\ts σ H1 fun xs H2=>r x xs H2 Q
def dA(g:TG)(tb:TS)(D:Ends)(J:It)(σ:St)(H:Hp):Prop:=∃ W:Nat->Nat->St->Hp->Prop,(∃ m,W 0 m σ H)/\∀ i m σ H,W i m σ H ->
 (J.stop i H/\D.nx σ H)\/(J.go i H/\∃ N:St->Hp->Prop,(∀ σ' H',N σ' H'->∃ m',m'<m/\W (i+1) m' σ' H')/\∀ x H',J.Eg i H x H'->g x σ H' fun σ2 H2=>tb { D with nx:=N,ct:=N,bk:=D.nx } σ2 H2)
section
variable {X:Cx}
theorem F6:bM X (.builtin "len") (MN X.K):=yk
theorem AX:bM X (.type "tuple") (tP X.K):=wo
theorem CZ:bM X (.type "list") (yI X.K):=ym
theorem yJ:bM X (.builtin "isinstance") (gy X.K):=Az
theorem oU:bM X (.builtin "abs") UU:=Ib
theorem xJ:bM X (.type "int") OL:=FA
end
section
variable {t u:TS}{D:Ends}{σ:St}{H:Hp}{te ta tb:TE}{g:TG}{tt tu:TT}{Q:VK}{i j:Int}{x y v w:V}{K:Frag}
theorem AY(h:t { D with nx:=u D } σ H):TX t u D σ H:=h
theorem ES(h:te σ H fun x H1=>g x σ H1 D.nx):HQ te g D σ H:=h
theorem yK{n:Nat}(h:R (σ.set n (some v)) H):bu n v σ H R:=h
theorem U0(h:te σ H D.rt):TY te D σ H:=h
theorem QG(h:te σ H fun _ H1=>D.nx σ H1):Og te D σ H:=h
theorem QH(h:D.nx σ H):Of D σ H:=h
theorem U1(h:c σ H fun b H1=>if b=true then t D σ H1 else u D σ H1):TZ c t u D σ H:=h
theorem U2{n:Nat}(e:σ[n]?=some (some v))(h:Q v H):sV n σ H Q:=⟨v,e,h⟩
theorem YW(h:Q v H):tC v σ H Q:=h
theorem YX(h:ta σ H fun x H1=>tb σ H1 fun y H2=>r x y H2 Q):HW r ta tb σ H Q:=h
theorem YY(h:ta σ H fun x H1=>r x H1 Q):tUn r ta σ H Q:=h
theorem r_b(h:te σ H fun x H1=>US x H1 R):tB te σ H R:=h
theorem QI(h:te σ H fun x H1=>US x H1 R):Eo te σ H R:=h
theorem QJ{b:Bool}(h:R b H):US (.bl b) H R:=⟨b,rfl,h⟩
theorem U3(h:tt σ H fun c H1=>if c=true then tu σ H1 R else R false H1):TU tt tu σ H R:=h
theorem YZ(h:tt σ H fun c H1=>if c=true then R true H1 else tu σ H1 R):tOr tt tu σ H R:=h
theorem U4(h:tt σ H fun c H1=>R (!c) H1):TV tt σ H R:=h
theorem QK(h:ta σ H fun x H1=>US x H1 fun c H2=>if c=true then tb σ H2 Q else Q (.bl false) H2):Od ta tb σ H Q:=h
theorem QL(h:ta σ H fun x H1=>US x H1 fun c H2=>Q (.bl (!c)) H2):Oe ta σ H Q:=h
theorem U5(h:tt σ H fun c H1=>if c=true then ta σ H1 Q else tb σ H1 Q):tIf tt ta tb σ H Q:=h
theorem Y0(h:Q (f i j) H):Md f (.int i) (.int j) H Q:=⟨i,j,rfl,rfl,h⟩
theorem Y1(c:C i j)(h:Q (f i j) H):rI C f (.int i) (.int j) H Q:=⟨i,j,rfl,rfl,c,h⟩
theorem r_U(h:Q (f i) H):rU f (.int i) H Q:=⟨i,rfl,h⟩
theorem U6{i j:Int}:decide (V.int i=V.int j)=decide (i=j):=by
 by_cases e:i=j
 ·subst e;simp
 ·rw [aam e];exact aam fun z=>e (by injection z)
theorem U7(h:Q (.bl (decide (i=j))) H):Ye (.int i) (.int j) H Q:=⟨rfl,by rw [U6];exact h⟩
theorem U8(h:Q (.bl (!decide (i=j))) H):Yf (.int i) (.int j) H Q:=⟨rfl,by rw [U6];exact h⟩
theorem U9(h:R [] H):Aj σ H R:=h
theorem QM(h:te σ H fun x H1=>ts σ H1 fun xs H2=>R (x::xs) H2):xn te ts σ H R:=h
theorem Va(h:ts σ H fun xs H1=>OJ xs H1 Q):Uc ts σ H Q:=h
theorem Vb(h:ts σ H fun xs H1=>OK xs H1 Q):Mh ts σ H Q:=h
theorem QN(hl:xs.length<=1000)(h:∀ p H2,aj H H2->H2 p=some (.tup xs)->Q (.ref p) H2):OJ xs H Q :=
 ⟨aai (dO hl),fun p hp=>h p _ (aj.aZ hp) aw⟩
theorem Jx(hl:xs.length<=1000)(h:∀ p H2,H p=none->aj H H2->H2 p=some (.lst xs)->Q (.ref p) H2):OK xs H Q :=
 ⟨aai (dO hl),fun p hp=>h p _ hp (aj.aZ hp) aw⟩
theorem Y2(h:ts σ H fun vs H1=>r vs H1 Q):Yi r ts σ H Q:=h
theorem QO(h:wi σ H fun J H1=>aV ix g tt te σ Q J H1):Aq ix wi g tt te σ H Q:=h
theorem Y3(h:te σ H fun x H1=>tl σ H1 fun l H2=>th σ H2 fun u H3=>r x l u H3 Q):tSl r te tl th σ H Q:=h
theorem Jy(h:R none H):Ew σ H R:=h
theorem QP(h:te σ H fun x H1=>UT x H1 R):Ol te σ H R:=h
theorem MO(h:R (some i) H):UT (.int i) H R:=⟨i,rfl,h⟩
theorem Y4{T:String}(h:te σ H fun x H1=>Jw K T ts r σ Q x H1):tBM K T r te ts σ H Q:=h
theorem Vc{wi:TI}{tb:TS}(h:wi σ H fun J H1=>dA g tb D J σ H1):T8 wi g tb D σ H:=h
theorem MP(h:te σ H fun x H1=>UW K x H1 R):HU K te σ H R:=h
theorem QQ(h:te σ H fun x H1=>UX K x H1 R):Pw K te σ H R:=h
theorem QR(h:ts σ H fun vs H1=>UY vs H1 R):Oi ts σ H R:=h
theorem QS{k1 k2:Bool}(h:ts σ H fun vs H1=>UZ K k1 k2 vs H1 R):IE K k1 k2 ts σ H R:=h
theorem Vd(e:aP K H a xs)(h:R (LJ K a) H):UW K (.ref a) H R:=⟨a,rfl,⟨_,e⟩,h⟩
theorem Ve(e:aC K H a xs)(h:R (HS K a) H):UX K (.ref a) H R:=⟨a,rfl,⟨_,e⟩,h⟩
theorem Vf(h1:-1000000<=j)(h2:j<=1000000)(h:R (Fw 0 j.toNat) H):UY [.int j] H R:=⟨j,rfl,aaa,aaa,h⟩
theorem Vg{k1 k2:Bool}(e1:Sq k1 K H a xs)(e2:Sq k2 K H b ys)(h:R (Mx K k1 k2 a b) H):UZ K k1 k2 [.ref a,.ref b] H R:=⟨a,b,rfl,⟨_,e1⟩,⟨_,e2⟩,h⟩
theorem gR(h:aC K H a xs):Sq true K H a xs:=h
theorem me(h:aP K H a xs):Sq false K H a xs:=h
theorem jk(e:aC K H a xs)(n:FE xs i=some v)(h:Q v H):Um K (.ref a) (.int i) H Q:=.inr (.inl ⟨a,xs,i,v,rfl,rfl,e,n,h⟩)
theorem dY(e:aP K H a xs)(n:FE xs i=some v)(h:Q v H):Um K (.ref a) (.int i) H Q:=.inl ⟨a,xs,i,v,rfl,rfl,e,n,h⟩
theorem QT(e:aC K H a xs)(h:Q (.int xs.length) H):MN K [.ref a] H Q:=⟨a,xs,rfl,.inr e,h⟩
theorem QU(e:aP K H a xs)(h:Q (.int xs.length) H):MN K [.ref a] H Q:=⟨a,xs,rfl,.inl e,h⟩
theorem Jz(e:aP K H a xs)(h:∀ p H2,aj H H2->H2 p=some (.tup xs)->Q (.ref p) H2):tP K [.ref a] H Q :=
 ⟨a,xs,rfl,.inl ⟨e,fun p hp=>h p _ (aj.aZ hp) aw⟩⟩
theorem MQ(e:aP K H a xs)(h:∀ p H2,H p=none->aj H H2->H2 p=some (.lst xs)->Q (.ref p) H2):yI K [.ref a] H Q:=⟨a,xs,rfl,.inl e,fun p hp=>h p _ hp (aj.aZ hp) aw⟩
theorem Vh(h:Q (.int (if i<0 then -i else i)) H):UU [.int i] H Q:=⟨i,rfl,h⟩
theorem MR{b:Bool}(h:Q (.int (if b then 1 else 0)) H):OL [.bl b] H Q:=.inr ⟨b,rfl,h⟩
theorem MS{T:String}(e:Xb K T x H)(h:ts σ H fun xs H2=>r x xs H2 Q):Jw K T ts r σ Q x H:=⟨e,h⟩
theorem fL(e:H l=some (.lst xs))(n:xs.length<=1000)(h:Q .cJ (upd H l (.lst (xs++[y])))):EA (.ref l) [y] H Q:=⟨l,xs,y,rfl,rfl,e,dO n,h⟩
theorem JA(e1:H a=some (.lst xs))(e2:H b=some (.lst ys))(n:xs.length+ys.length<=1000)(h:∀ p H2,H p=none->aj H H2->H2 p=some (.lst (xs++ys))->Q (.ref p) H2):Us (.ref a) (.ref b) H Q :=
 ⟨a,b,xs,ys,rfl,rfl,e1,e2,aai (dO n),fun p hp=>h p _ hp (aj.aZ hp) aw⟩
theorem yL(e1:aC K H a xs)(e2:aC K H b ys)(n1:xs≠[])(n2:ys≠[])(n:xs.length+ys.length<=1000)(h:∀ p H2,aj H H2->H2 p=some (.tup (xs++ys))->Q (.ref p) H2):Il K (.ref a) (.ref b) H Q :=
 ⟨a,b,xs,ys,rfl,rfl,e1,e2,n1,aai (dO n),fun z=>absurd z n2,fun _ p hp=>h p _ (aj.aZ hp) aw⟩
theorem OM{a:Addr}{xs:List V}{lo hi:Option Int}(e:aP K H a xs)(h:∀ p H2,H p=none->aj H H2->H2 p=some (.lst (lB xs lo hi))->Q (.ref p) H2):Ir K (.ref a) lo hi H Q :=
 ⟨a,xs,rfl,e,fun p hp=>h p _ hp (aj.aZ hp) aw⟩
theorem QV{n:String}{b:Bool}(e:aC K H a xs)(k:PySem.W.kitOne K (.type "tuple") (.type n)=some b)(h:Q (.bl b) H):gy K [.ref a,.ty n] H Q:=⟨_,n,_,b,rfl,.inr (.inl ⟨a,xs,rfl,e,rfl⟩),k,h⟩
theorem QW{n:String}{b:Bool}(e:aP K H a xs)(k:PySem.W.kitOne K (.type "list") (.type n)=some b)(h:Q (.bl b) H):gy K [.ref a,.ty n] H Q:=⟨_,n,_,b,rfl,.inr (.inr ⟨a,xs,rfl,e,rfl⟩),k,h⟩
theorem QX{n:String}{b:Bool}(k:PySem.W.kitOne K (.type "int") (.type n)=some b)(h:Q (.bl b) H):gy K [.int i,.ty n] H Q:=⟨_,n,_,b,rfl,.inl (.int _),k,h⟩
theorem QY{c:Bool}{n:String}{b:Bool}(k:PySem.W.kitOne K (.type "bool") (.type n)=some b)(h:Q (.bl b) H):gy K [.bl c,.ty n] H Q:=⟨_,n,_,b,rfl,.inl (.bl _),k,h⟩
theorem Vi{J:It}{tb:TS}(n:Nat)(Pv:Nat->St->Prop)(h0:Pv 0 σ)(FR:∀ i H2,i<n->aj H H2->J.go i H2)(ir:∀ H2,aj H H2->J.stop n H2)
  (hs:∀ i x σ H2 H3,i<n->Pv i σ->aj H H2->J.Eg i H2 x H3->g x σ H3 fun σ2 H4=>tb { D with nx:=fun σ' H'=>Pv (i+1) σ'/\aj H H',ct:=fun σ' H'=>Pv (i+1) σ'/\aj H H',bk:=D.nx } σ2 H4) (hd:∀ σ H2,Pv n σ->aj H H2->D.nx σ H2):dA g tb D J σ H:=by
 refine⟨fun i m σ2 H2=>m=n - i/\i<=n/\Pv i σ2/\aj H H2,⟨n,by simp,aa0 _,h0,aj.refl _⟩,?_⟩
 rintro i m σ2 H2 ⟨rfl,hi,p,s⟩
 by_cases fk:i<n
 ·exact .inr ⟨FR i H2 fk s,fun σ' H'=>Pv (i+1) σ'/\aj H H',fun σ' H' p'=>⟨n - (i+1),aaa,rfl,fk,p'.1,p'.2⟩,fun x H' y=>hs i x σ2 H2 H' fk p s y⟩
 ·have e:i=n:=by lia
  subst e
  exact .inl ⟨ir H2 s,hd σ2 H2 p s⟩
theorem Vj{k1 k2:Bool}{a b:Addr}{xs ys:List V}{m n:Nat}{tb:TS}(ha:Sq k1 K H a xs)(hb:Sq k2 K H b ys)(hlen:xs.length=ys.length)(Pv:Nat->St->Prop)(h0:Pv 0 σ)
  (hs:∀ i x y σ H2,xs[i]?=some x->ys[i]?=some y->Pv i σ->aj H H2->tb { D with nx:=fun σ' H'=>Pv (i+1) σ'/\aj H H',ct:=fun σ' H'=>Pv (i+1) σ'/\aj H H',bk:=D.nx } ((σ.set m (some x)).set n (some y)) H2)
  (hd:∀ σ H2,Pv xs.length σ->aj H H2->D.nx σ H2):dA (wd K 2 (eS (bu m) (eS (bu n) yd))) tb D (Mx K k1 k2 a b) σ H:=by
 refine Vi xs.length Pv h0 (fun i H2 hi s=>?_) (fun H2 s=>?_) (fun i x σ H2 H3 hi p s hy=>?_) hd
 ·exact⟨_,_,xs[i],ys[i]'(hlen ▸ hi),s.sq ha,s.sq hb,aat hi,aat (hlen ▸ hi)⟩
 ·exact⟨_,_,s.sq ha,s.sq hb,.inl (aah _)⟩
 ·obtain ⟨q,x',y',rfl,hq,e1,e2,rfl⟩:=hy
  refine⟨q,_,rfl,aC.of aw,rfl,_,_,rfl,_,_,rfl,rfl,?_⟩
  have s2:aj H2 (upd H2 q (.tup [x',y'])):=aj.aZ hq
  exact hs i x' y' σ _ (e1 _ (s.sq ha)) (e2 _ (s.sq hb)) p (s.trans s2)
theorem QZ{J:It}{tb:TS}{l:Addr}{H0:Hp}(Vk:H0 l=none)(Qw:aj H0 H)(n:Nat)(ys:Nat->List V)(Pv:Nat->St->Prop)(hl:H l=some (.lst (ys 0)))(h0:Pv 0 σ)(FR:∀ i H2,i<n->aj H0 H2->J.go i H2)(ir:∀ H2,aj H0 H2->J.stop n H2)
  (hs:∀ i x σ H2 H3,i<n->Pv i σ->aj H0 H2->H2 l=some (.lst (ys i))->J.Eg i H2 x H3->g x σ H3 fun σ2 H4=>tb { D with nx:=fun σ' H'=>Pv (i+1) σ'/\aj H0 H'/\H' l=some (.lst (ys (i+1))),ct:=fun σ' H'=>Pv (i+1) σ'/\aj H0 H'/\H' l=some (.lst (ys (i+1))),bk:=D.nx } σ2 H4) (hd:∀ σ H2,Pv n σ->aj H0 H2->H2 l=some (.lst (ys n))->D.nx σ H2):dA g tb D J σ H:=by
 refine⟨fun i m σ2 H2=>m=n - i/\i<=n/\Pv i σ2/\aj H0 H2/\H2 l=some (.lst (ys i)),⟨n,by simp,aa0 _,h0,Qw,hl⟩,?_⟩
 rintro i m σ2 H2 ⟨rfl,hi,p,s,q⟩
 by_cases fk:i<n
 ·exact .inr ⟨FR i H2 fk s,fun σ' H'=>Pv (i+1) σ'/\aj H0 H'/\H' l=some (.lst (ys (i+1))),fun σ' H' p'=>⟨n - (i+1),aaa,rfl,fk,p'.1,p'.2.1,p'.2.2⟩,fun x H' y=>hs i x σ2 H2 H' fk p s q y⟩
 ·have e:i=n:=by lia
  subst e
  exact .inl ⟨ir H2 s,hd σ2 H2 p s q⟩
end
theorem jl{c:Bool}{A B:Prop}(e:c=true)(h:A):if c=true then A else B:=by rw [if_pos e];exact h
theorem bZ{c:Bool}{A B:Prop}(e:c=false)(h:B):if c=true then A else B:=by rw [e];exact Iy h
theorem aW{c:Bool}{A B:Prop}(h1:c=true->A)(h2:c=false->B):if c=true then A else B:=by
 cases c with
 | true=>exact FI (h1 rfl)
 | false=>exact Iy (h2 rfl)
section
variable {t u:TS}{D:Ends}{σ:St}{H:Hp}{te ta tb:TE}{g:TG}{tt tu:TT}{Q:VK}{i j:Int}{x y v w:V}{K:Frag}{X:Cx}
theorem MT(h:ts σ H fun vs H1=>sp vs H1 Q E):Es sp [] E ts σ H Q:=by
 unfold Es
 simp only [append_nil]
 exact h
def WGo(tb:TS)(D:Ends)(W:Nat->St->Hp->Prop)(m:Nat)(σ:St)(H1:Hp):Prop:=∃ N:St->Hp->Prop,(∀ σ' H',N σ' H'->∃ m',m'<m/\W m' σ' H')/\tb { D with nx:=N,ct:=N,bk:=D.nx } σ H1
theorem yM{c:TT}{tb:TS}(W:Nat->St->Hp->Prop)(m:Nat)(h0:W m σ H)(hs:∀ m σ H,W m σ H->c σ H fun b H1=>if b=true then WGo tb D W m σ H1 else D.nx σ H1):HR c tb D σ H:=⟨W,⟨m,h0⟩,hs⟩
theorem Q1{tb:TS}{W:Nat->St->Hp->Prop}{m:Nat}(h:tb { D with nx:=fun σ' H'=>∃ m',m'<m/\W m' σ' H',ct:=fun σ' H'=>∃ m',m'<m/\W m' σ' H',bk:=D.nx } σ H):WGo tb D W m σ H:=⟨_,fun _ _ z=>z,h⟩
theorem JB{lo:Int}{n:Nat}{tb:TS}(Pv:Nat->St->Prop)(h0:Pv 0 σ)(hs:∀ i σ,i<n->Pv i σ->g (.int (lo+i)) σ H fun σ2 H4=>tb { D with nx:=fun σ' H'=>Pv (i+1) σ'/\H'=H,ct:=fun σ' H'=>Pv (i+1) σ'/\H'=H,bk:=D.nx } σ2 H4)
  (hd:∀ σ,Pv n σ->D.nx σ H):dA g tb D (Fw lo n) σ H:=by
 refine Fy (fun i σ2 H2=>Pv i σ2/\H2=H) ⟨h0,rfl⟩ (fun i σ2 H2 hi p=>?_) (fun σ2 H2 p=>?_)
 ·obtain ⟨p,rfl⟩:=p
  exact hs i σ2 hi p
 ·obtain ⟨p,rfl⟩:=p
  exact hd σ2 p
theorem Q2{a:Addr}{xs:List V}{tb:TS}(ha:aC K H a xs)(Pv:Nat->St->Prop)(h0:Pv 0 σ)(hs:∀ i x σ,xs[i]?=some x->Pv i σ->g x σ H fun σ2 H4=>tb { D with nx:=fun σ' H'=>Pv (i+1) σ'/\H'=H,ct:=fun σ' H'=>Pv (i+1) σ'/\H'=H,bk:=D.nx } σ2 H4)
  (hd:∀ σ,Pv xs.length σ->D.nx σ H):dA g tb D (HS K a) σ H:=by
 refine Mc (xs:=xs) (fun i σ2 H2=>Pv i σ2/\H2=H) ⟨h0,rfl⟩ (fun i σ2 H2 _ p=>?_) (fun i x σ2 H2 hi p=>?_) (fun σ2 H2 p=>?_)
 ·obtain ⟨p,rfl⟩:=p
  exact ha
 ·obtain ⟨p,rfl⟩:=p
  exact hs i x σ2 hi p
 ·obtain ⟨p,rfl⟩:=p
  exact hd σ2 p
end
section
variable {X:Cx}(K:Frag)(hK:X.K=K)
include hK
theorem bQ:bM X (.builtin "len") (MN K):=hK ▸ F6
theorem cc:bM X (.type "tuple") (tP K):=hK ▸ AX
theorem yN:bM X (.type "list") (yI K):=hK ▸ CZ
theorem oV:bM X (.builtin "isinstance") (gy K):=hK ▸ yJ
theorem C0:Ip X (Um K):=hK ▸ P7
theorem fM:P0 X (Ir K):=hK ▸ Mo
theorem nJ:gq X (binaryOp .Add) (Il K):=hK ▸ Ex
theorem C1:gq X (compareOp .In) (Xa K false):=hK ▸ FF
theorem aR(hl:PE X l tl):PI X tg l (HU K tl):=hK ▸ Mb hl
theorem cW(hl:PE X l tl):PI X tg l (Pw K tl):=hK ▸ Px hl
theorem iy(k1 k2:Bool){kk:Nat}(hg:Gl X "zip")(hm:X.mg "zip"=none)(ha:PA X [a,b] ta)(hs:starEach [a,b] X.env=[(false,eval a X.env),(false,eval b X.env)]:=by rfl)(iC:starEach [b] X.env=[(false,eval b X.env)]:=by rfl):
  PI X (.Tuple es kk Ai) (.Call (.Name "zip" p) [a,b] [] pos) (IE K k1 k2 ta):=hK ▸ My k1 k2 hg hm ha hs iC
theorem eM{k:Nat}{t:Oh}{n:Nat}(hc:X.calm=true)(h:T5 X es t)(hn:(assignEach es X.env).length=n:=by rfl)(rD:(assignEach es X.env).findIdx? (·.1)=none:=by rfl):PG X (.Tuple es k pos) (wd K n t):=hK ▸ Ps hc h hn rD
end
end L2
namespace eL
theorem cB(x:Int):L2.eT x=bl x:=rfl
end eL
namespace L2
open PySem PySem.Spec PyProof.Rows
section
variable {H:Hp}{Q:VK}{K:Frag}
theorem JC(x:V)(xs:List V):lB (x::xs) (some 1) none=xs:=by
 have e:HT.dh (x::xs).length 0 (some 1)=1:=by
  have h:=HT.yf (x::xs).length 0 1
  simp only [length_cons] at h ⊢
  have h2:min 1 (xs.length+1)=1:=by lia
  rw [h2] at h
  exact h
 unfold lB
 rw [e,HT.tm]
 simp
theorem Q3(e:aP K H a (x::xs))(h:∀ p H2,H p=none->aj H H2->H2 p=some (.lst xs)->Q (.ref p) H2):Ir K (.ref a) (some 1) none H Q :=
 OM e fun p H2 n s m=>h p H2 n s (by rw [JC] at m;exact m)
end
end L2
namespace L2
open PySem
section
variable {prog:Program}{w:World}{A:Around}{E:Value->Shared->Prop}{s:Shared}
structure Zip3(k1 k2 k3:Bool)(n a b c:Nat)(i:Nat)(f0:Value)(h:Heap):Prop where
 z:IsZip h (n+5) (n+3) (n+4) f0
 ti:IsT h (n+3) #[.ref n,.ref (n+1),.ref (n+2)]
 to:∃ u v x,IsT h (n+4) #[u,v,x]
 i1:ju k1 h n a i
 i2:ju k2 h (n+1) b i
 i3:ju k3 h (n+2) c i
end
open PySem PySem.Spec PyProof.Rows
def rm(H:Hp)(l:Addr):Hp:=fun b=>if b=l then none else H b
theorem AZ:rm H l l=none:=by unfold rm;rw [if_pos rfl]
theorem JD(h:b≠l):rm H l b=H b:=by unfold rm;rw [if_neg h]
theorem sG:aj (rm H l) H:=fun b o e=>by
 by_cases h:b=l
 ·subst h;rw [AZ] at e;cases e
 ·rw [JD h] at e;exact e
theorem JE{K:Frag}{H:Hp}{l a:Addr}{xs ys:List V}(h:aC K H a xs)(hl:H l=some (.lst ys)):aC K (rm H l) a xs:=by
 have ne:∀ {o},H a=some o->(∀ zs,o≠.lst zs)->a≠l:=fun {o} e n z=>by subst z;rw [hl] at e;exact n _ (aaj e).symm
 rcases h with (h|⟨o,h⟩)|h
 ·exact .inl (.inl (by rw [JD (ne h fun _ z=>nomatch z)];exact h))
 ·exact .inl (.inr ⟨o,by rw [JD (ne h fun _ z=>nomatch z)];exact h⟩)
 ·exact .inr h
end L2
namespace L2
open PySem PySem.Spec PyProof.Rows PySem.W
structure rM(K:Frag)(C:Addr):Prop where
 ga:findIn K (.ref C) "__getattribute__"=some (some (.builtin "BaseException.__getattribute__"))
 gt:findIn K (.ref C) "__getattr__"=some none
 fc:findObj K C none "__class__"=some (.bind (.builtin "getset_descriptor.__get__") (.builtin "object.__class__"))
 ob:mroIn K C (.type "object")=some true
 be:subIn K (.ref C) (.type "BaseException")=some true
 cl:(clsIn K C).isSome=true
section
variable {prog:Program}{w:World}{A:Around}{E:Value->Shared->Prop}{s:Shared}{K:Frag}{x C:Addr}{ox:Obj}
theorem F7(V:rM K C)(X:K.In s.heap){od:Option Obj}(I:InstAt s.heap x ox C od)(fc:findObj K C od "__class__"=some (.bind (.builtin "getset_descriptor.__get__") (.builtin "object.__class__")))(h:Q (some (.ref C)) { s with toks:=s.toks+1 }):
  wpAny (model prog w) A (getAttr? (.ref x) "__class__") Q E s:=by
 obtain ⟨hh,g,d,t,os⟩:=s
 have L0:=I.type (M:=model prog w)
 have L1:=looks_findIn (M:=model prog w) X V.ga
 have L2:=looks_findIn (M:=model prog w) X V.gt
 have L3:=looks_find (M:=model prog w) X I fc
 have L4:=looks_subIn (M:=model prog w) X V.be
 have f3:=F.attr_ValueError.ga.bind (.ref x)
 unfold getAttr? getAttrBy? getAttrBy
 refine aac (wpAny_mkText (aac (wpAny_attempt (wpAny_holding (aac (L0.at (aac (L1.at ?_))))))))
 have hx2:(Value.builtin "BaseException.__getattribute__" == Value.builtin "object.__getattribute__")=false:=by decide +kernel
 have Xq:(onTheHeap (Value.ref C) && Value.builtin "BaseException.__getattribute__" == Value.builtin "object.__getattribute__")=false:=by rw [hx2];rfl
 dsimp only
 rw [Xq]
 simp only [Bool.false_eq_true,if_false]
 unfold getAttrByItsOwn hookBefore
 rw [if_pos (show onTheHeap (Value.ref C)=true from rfl)]
 refine aac (L2.at (aac (wpAny_attempt (wpAny_holding ?_))))
 unfold callGetattribute boundAndCalled
 rw [if_neg aa8]
 rw [f3]
 refine aac (aap (wpAny_call ?_))
 refine codeAny_call_builtin F.attr_ValueError.ga.plain F.entry_bexc_ga ?_
 have hk:builtinKind "BaseException.__getattribute__"=some .slot:=by decide +kernel
 have Q4:splitId "BaseException.__getattribute__"=some ("BaseException","__getattribute__"):=by decide +kernel
 have ha:=F.args_bexc_ga (.ref x) (.str "__class__" t)
 simp only [checkBuiltinCall,hk,Q4]
 refine aac ?_
 unfold isInstance
 refine aac (L0.at (L4.at ?_))
 rw [if_neg aa8]
 refine wpAny_of_eq (a:=()) ha ?_
 show wpAny _ _ (Builtin.«object.__getattribute__» ⟨[.ref x,.str "__class__" t],[]⟩) _ _ _
 unfold Builtin.«object.__getattribute__»
 refine aac (aap ?_)
 refine aac (aap (aac (L0.at (aac (L3.at ?_)))))
 show wpAny _ _ (holding [.builtin "object.__class__"] (call (.builtin "getset_descriptor.__get__") [.builtin "object.__class__",.ref x,.ref C]) >>= ret) _ _ _
 refine aac (wpAny_holding (wpAny_call (class_get (s:=⟨hh,g,d,t+1,os⟩) X I V.ob ?_)))
 refine aap ?_
 show wpAny _ _ (handedOut (.ref C)) _ _ _
 rw [handedOut_of rfl]
 exact aap (aap h)
end
end L2
namespace L2
open PySem PySem.Spec PyProof.Rows PySem.W
theorem tQ {K:Frag} {a C:Addr} (V:rM K C):KitX K (.ref a) (.ref C) (fun h=>∃ ox od,PySem.W.InstAt h a ox C od/\findObj K C od "__class__"=some (.bind (.builtin "getset_descriptor.__get__") (.builtin "object.__class__"))) where
 ty:=fun _ _ _ ⟨_,_,I,_⟩=>I.type
 it:=fun _ _ X _=>by
  obtain ⟨cd,hc⟩:=aao.mp V.cl
  unfold clsIn at hc
  split at hc
  ·rename_i c' d' cd' L9 ho
   intro A' Q' E' s' k q
   unfold isType loadHead
   exact aac (wpAny_loadPart (k _ _ (X _ _ ho)) (aap q))
  ·cases hc
 ne:=fun h tp dd its n sl X htp=>by
  obtain ⟨cd,hc⟩:=aao.mp V.cl
  refine Bool.eq_false_iff.mpr fun q=>?_
  have e:C=tp:=Value.ref.inj (beq_iff_eq.mp q)
  subst e
  unfold clsIn at hc
  split at hc
  ·rename_i c' d' cd' L9 ho
   have z:=(X _ _ ho).symm.trans htp
   cases z
  ·cases hc
 ca:=fun X ⟨_,_,I,fc⟩ k=>F7 V X I fc k
theorem JF{K:Frag}{C:Addr}{o:Obj}{n:Str}{r:Builtin.ObjectAttr.Found}(h:findObj K C none n=some r)(hl:lookIn n o=some none):findObj K C (some o) n=some r:=by
 unfold findObj at h ⊢
 have e:∀ cd:ClassData,PySem.W.ownOf cd (some o) n=PySem.W.ownOf cd none n:=fun cd=>by unfold PySem.W.ownOf;dsimp only;rw [hl]
 simp only [e]
 exact h
def tR(q:Prop)(a C:Addr)(d:Option Addr):HO:=.ext fun h=>∃ ox,h.get? a=some ox/\ox.cls=.ref C/\notCls ox=true/\ox.dict=d/\(q->∃ vs,ox.data=.fields vs/\vs[2]?=some .none)
def C2 (H:Hp) (d:Option Addr):Prop:=∀ dx,d=some dx->∃ fs,H dx=some (.xd fs)/\fs.lookup ("__class__":Str)=none
theorem C2.none:C2 H none:=fun _ e=>nomatch e
section
variable {M:Model}{A:Around}{E:Value->Shared->Prop}{s:Shared}
theorem tS{yO:Bool}(wt:A.frames=some (env::outer))(hl:s.heap.FunFrames base (env::outer))(hf:env.frame=some L)(he:s.heap.get? e=some oe)(hd:oe.data=.fields vs)(lI:1<vs.size)(h:∀ h' T,(∀ b o,b≠e->b∉sx (env::outer)->s.heap.get? b=some o->h'.get? b=some o)->(∀ b o,b≠e->s.heap.get? b=some o->∃ sl,h'.get? b=some { o with slots:=sl }) ->
   s.heap.get? T=none->T≠e->h'.get? e=some (oe.mapFields (·.setIfInBounds 1 (.ref T)))->(∃ oT ts,h'.get? T=some oT/\oT.data=.fields ts/\ts[3]?=some .none)->Q () { s with heap:=h' }):
  wpAny M A (do let a <- frameOf env;let pl <- entryPlaceOf L yO;let b <- EntryCells.newEntry head a .none (rawInt L) .none pl;setField (.ref e) 1 b) (fun _ s'=>wpAny M A (setFlight (.ref e) none) Q E s') E s:=by
 have Q5:e∉(env::outer).filterMap (·.frame):=fun hm=>by
  obtain ⟨_,o,ho,yP⟩:=hl.mem hm
  rw [he] at ho;injection ho with ho;subst ho;exact yP vs hd
 refine aac (wpAny_frameOf_fun wt hl hf fun h₁ MU=>?_)
 refine aac (wpAny_entryPlaceOf fun pl oy=>?_)
 unfold EntryCells.newEntry newFields
 refine aac (wpAny_newObj_type ?_ (oy.sizeOk5 _ _ _ _ _))
 have Vl:h₁.get? e=some oe:=(MU.2.1 e Q5).trans he
 have Vm:=aab (h:=h₁) { cls:=.type "traceback",dict:=none,data:=.fields ([head,.ref L,.none,rawInt L,.none]++(if pl.isEmpty then List.replicate 6 Value.none else pl)).toArray } Vl
 refine wpAny_setField Vm hd lI ?_
 have JG:h₁.objs.size≠e:=Nat.ne_of_gt (aae Vl)
 have hd₃:=Obj.data_mapFields hd (·.setIfInBounds 1 (Value.ref h₁.objs.size))
 have he₃:=Heap.get?_update_self (Obj.mapFields (·.setIfInBounds 1 (Value.ref h₁.objs.size))) Vm (Obj.isFreed_of_fields hd₃)
 have hT₃:=(Heap.get?_update_other (h₁.push { cls:=.type "traceback",dict:=none,data:=.fields ([head,.ref L,.none,rawInt L,.none]++(if pl.isEmpty then List.replicate 6 Value.none else pl)).toArray })
  (Obj.mapFields (·.setIfInBounds 1 (Value.ref h₁.objs.size))) (Ne.symm JG)).trans (aaf h₁ rfl)
 unfold setFlight
 refine aac (wpAny_field he₃ hd₃ (x:=.ref h₁.objs.size) (by simp [lI]) ?_)
 rw [if_pos (show (Value.ref h₁.objs.size != Value.none)=true from by simp)]
 have keep:∀ b o,b≠e->h₁.get? b=some o ->
   (((h₁.push { cls:=.type "traceback",dict:=none,data:=.fields ([head,.ref L,.none,rawInt L,.none]++(if pl.isEmpty then List.replicate 6 Value.none else pl)).toArray }).update e (Obj.mapFields (·.setIfInBounds 1 (Value.ref h₁.objs.size)))).update h₁.objs.size
    (Obj.mapFields (·.setIfInBounds 3 ((none:Option Addr).elim Value.none fun f=>rawInt f)))).get? b=some o:=fun b o Ah hb=>by
  have hbT:h₁.objs.size≠b:=Nat.ne_of_gt (aae hb)
  rw [Heap.get?_update_other _ _ hbT,Heap.get?_update_other _ _ (Ne.symm Ah)]
  exact aab _ hb
 refine wpAny_setField hT₃ rfl (by simp only [aaP,aaA,length_cons,List.length_nil] <;> lia) (h _ h₁.objs.size (fun b o Ah Y5 hb=>keep b o Ah ((MU.2.1 b Y5).trans hb)) (fun b o Ah hb=>?_) (Heap.get?_none_of_le (by rw [MU.1];exact aah _)) JG ?_ ?_)
 ·obtain ⟨sl,hs⟩:=MU.2.2 b o hb
  exact⟨sl,keep b _ Ah hs⟩
 ·rw [Heap.get?_update_other _ _ JG];exact he₃
 ·exact⟨_,_,Heap.get?_update_self _ hT₃ (Obj.isFreed_of_fields (Obj.data_mapFields rfl _)),Obj.data_mapFields rfl _,by first|(simp;done)|(rcases oy with rfl|⟨_,_,_,_,_,_,_,rfl⟩ <;> simp)⟩
def yQ(h:Heap)(e:Addr)(vs:Array Value):Option Addr->Prop
 | none=>vs[1]?=some .none
 | some T=>vs[1]?=some (.ref T)/\T≠e/\∃ oT ts,h.get? T=some oT/\oT.data=.fields ts/\ts[3]?=some .none
theorem xK(wt:A.frames=some (env::outer))(hl:s.heap.FunFrames base (env::outer))(hf:env.frame=some L)(he:s.heap.get? e=some oe)(hd:oe.data=.fields vs)(hh:yQ s.heap e vs T0)(h:∀ h' T,(∀ b o,b≠e->some b≠T0->b∉sx (env::outer)->s.heap.get? b=some o->h'.get? b=some o)->(∀ b o,b≠e->some b≠T0->s.heap.get? b=some o->∃ sl,h'.get? b=some { o with slots:=sl }) ->
   s.heap.get? T=none->T≠e->h'.get? e=some (oe.mapFields (·.setIfInBounds 1 (.ref T)))->(∃ oT ts,h'.get? T=some oT/\oT.data=.fields ts/\ts[3]?=some .none)->Q () { s with heap:=h' }):
  wpAny M A (noteFrame (.ref e) env) (fun _ s'=>wpAny M A (setFlight (.ref e) none) Q E s') E s:=by
 unfold noteFrame
 simp only [hf]
 cases T0 with
 | none =>
  have h1:vs[1]?=some .none:=hh
  refine aac (wpAny_field he hd h1 ?_)
  rw [if_neg aa8]
  exact tS wt hl hf he hd (Array.getElem?_eq_some_iff.mp h1).1 fun h' T k1 k2 k3 k4 k5 k6=>h h' T (fun b o b1 _ b3 b4=>k1 b o b1 b3 b4) (fun b o b1 _ b3=>k2 b o b1 b3) k3 k4 k5 k6
 | some T =>
  obtain ⟨h1,JG,oT,ts,hT,oz,h3⟩:=hh
  refine aac (wpAny_field he hd h1 ?_)
  rw [if_pos (show (Value.ref T != Value.none)=true from by simp)]
  refine aac (wpAny_field hT oz h3 ?_)
  rw [if_neg (show ¬ ((Value.none == rawInt L)=true) from by simp [rawInt])]
  refine aac (wpAny_setField hT oz (Array.getElem?_eq_some_iff.mp h3).1 ?_)
  have other:∀ b,b≠T->(s.heap.update T (Obj.mapFields (·.setIfInBounds 3 Value.none))).get? b=s.heap.get? b:=fun b hb=>Heap.get?_update_other _ _ (Ne.symm hb)
  have tV:∀ b o,s.heap.get? b=some o->(∀ vs,o.data≠.fields vs)->b≠T:=fun b o hb yP q=>by
   rw [q,hT] at hb;injection hb with hb;subst hb;exact yP ts oz
  have mZ:=Heap.get?_update_self (Obj.mapFields (·.setIfInBounds 3 Value.none)) hT (Obj.isFreed_of_fields (Obj.data_mapFields oz _))
  refine tS wt (hl.of_keeps fun b o hb yP=>⟨o,(other b (tV b o hb yP)).trans hb,rfl⟩) hf ((other e (Ne.symm JG)).trans he) hd (Array.getElem?_eq_some_iff.mp h1).1 fun h' T' k1 k2 k3 k4 k5 k6=>?_
  refine h h' T' (fun b o b1 b2 b3 b4=>k1 b o b1 b3 ((other b fun z=>b2 (by rw [z])).trans b4)) (fun b o b1 b2 b4=>k2 b o b1 ((other b fun z=>b2 (by rw [z])).trans b4)) ?_ k4 k5 k6
  by_cases hq:T'=T
  ·rw [hq,mZ] at k3;cases k3
  ·rw [other T' hq] at k3;exact k3
theorem flight_again(he:s.heap.get? e=some oe)(hd:oe.data=.fields vs)(hh:yQ s.heap e vs (some T))(h:∀ h',(∀ b o,b≠T->s.heap.get? b=some o->h'.get? b=some o)->(∃ oT ts,h'.get? T=some oT/\oT.data=.fields ts/\ts[3]?=some .none)->Q () { s with heap:=h' }):wpAny M A (setFlight (.ref e) none) Q E s:=by
 obtain ⟨h1,JG,oT,ts,hT,oz,h3⟩:=hh
 have Vn:3<ts.size:=(Array.getElem?_eq_some_iff.mp h3).1
 unfold setFlight
 refine aac (wpAny_field he hd h1 ?_)
 rw [if_pos (show (Value.ref T != Value.none)=true from by simp)]
 refine wpAny_setField hT oz Vn (h _ (fun b o hb e=>(Heap.get?_update_other _ _ (Ne.symm hb)).trans e) ⟨_,_,Heap.get?_update_self _ hT (Obj.isFreed_of_fields (Obj.data_mapFields oz _)),Obj.data_mapFields oz _,?_⟩)
 simp [Vn]
end
end L2
namespace L2
open PySem PySem.Spec PyProof.Rows PySem.W
theorem cv.there(x:cv P w H h a o):∃ ob,h.get? a=some ob:=by
 cases o with
 | lst xs=>obtain ⟨_,_,_,_,e⟩:=x;exact⟨_,e⟩
 | tup xs=>obtain ⟨_,_,_,ob,e,_⟩:=x;exact⟨_,e⟩
 | dK fv=>obtain ⟨_,_,_,_,o,_,_,e,_⟩:=x;exact⟨_,e⟩
 | dT fv=>obtain ⟨_,_,_,_,o,_,_,e,_⟩:=x;exact⟨_,e⟩
 | set S n=>obtain ⟨o,_,_,_,e,_⟩:=x;exact⟨_,e⟩
 | ins C dx fs=>obtain ⟨_,_,_,e,_⟩:=x;exact⟨_,e⟩
 | own y=>obtain ⟨_,e⟩:=x;exact⟨_,e⟩
 | xd fs=>obtain ⟨_,⟨_,_,_,e,_⟩,_⟩:=x;exact⟨_,e⟩
 | W0 lo hi=>obtain ⟨_,_,_,e⟩:=x;exact⟨_,e⟩
 | wb ob u=>obtain ⟨e,_⟩:=x;exact⟨_,e⟩
 | sR ps=>exact⟨_,(show h.get? a=some _ from x)⟩
 | met f y=>exact⟨_,(show h.get? a=some _ from x)⟩
 | ext φ=>obtain ⟨_,⟨_,e⟩,_⟩:=x;exact⟨_,e⟩
theorem gO.free(x:gO P w H h)(e:h.get? a=none):H a=none:=by
 cases q:H a with
 | none=>rfl
 | some o=>obtain ⟨ob,z⟩:=(x a o q).there;rw [e] at z;cases z
def tW (mg:Str->Option Value) (C:Addr):Prop:=mg "NoSpan"=some (.ref C)\/mg "TooFar"=some (.ref C)\/mg "NoName"=some (.ref C)\/mg "NoLength"=some (.ref C)\/mg "NoCommas"=some (.ref C)\/mg "NoKeys"=some (.ref C)
def A0(p:Prop)(vs:Array Value):Prop:=1<vs.size/\(p->vs[2]?=some .none)
theorem A0.set(h:A0 p vs):A0 p (vs.setIfInBounds 1 v):=⟨by simpa using h.1,fun q=>by
 have:=h.2 q
 rw [Array.getElem?_setIfInBounds_ne aa8]
 exact this⟩
abbrev XC:=Addr×Option Addr
def Exc(mg:Str->Option Value)(h:Heap)(H:Hp)(h0:Heap)(ps:List (Addr×Obj))(a:Addr)(C:XC):Prop:=∃ oe vs T0,h.get? a=some oe/\oe.cls=.ref C.1/\oe.dict=C.2/\oe.data=.fields vs/\A0 (tW mg C.1) vs/\yQ h a vs T0/\H a=none/\(h0.get? a=none/\∀ p∈ps,p.1≠a) /\
 ∀ T,T0=some T->H T=none/\h0.get? T=none/\∀ p∈ps,p.1≠T
def ET(P:Program)(w:World)(mg:Str->Option Value):CB:=fun outer H s E e s'=>∃ a C H',e=.ref a/\s'.os=s.os/\AllBare s'.gens/\Un (sx outer) [] H H' s.heap s'.heap/\gO P w H' s'.heap/\Exc mg s'.heap H' s.heap [] a C/\E (.ref C.1) C.2 H'
abbrev yR:=XC->St->Hp->Prop
def XW(X:Cx)(EX:yR):Value->Shared->Prop:=fun e s'=>∃ a C σ' H',e=.ref a/\Inv X.Cp [] σ' H' s'/\Exc X.mg s'.heap H' X.s₀.heap X.pn a C/\EX C σ' H'
theorem fN(o:Obj)(f:Array Value->Array Value):(o.mapFields f).dict=o.dict:=by
 unfold Obj.mapFields;split <;> rfl
theorem C3{P:Program}{w:World}{K:Frag}{mg:Str->Option Value}{base:Heap}{N:List Str}{qual:Str}{scope:Scope}{f:Addr}{cd:Value}{A:Around}{outer:List Env}{s:Shared}{H:Hp}{E:XK}{e:Value}{s':Shared}
  (h:XW (gP (ET P w mg) P w K mg base N qual scope f cd A outer s H E) (fun C _ H'=>E (.ref C.1) C.2 H') e s'):(gP (ET P w mg) P w K mg base N qual scope f cd A outer s H E).xe e s':=by
 obtain ⟨a,C,σ',H',rfl,I,⟨oe,vs,T0,he,hc,JH,hd,lI,hh,C4,⟨LM,_⟩,hT⟩,hE⟩:=h
 have C5:s.heap.get? a=none:=LM
 have Cj:∀ T,T0=some T->H' T=none/\s.heap.get? T=none:=fun T z=>⟨(hT T z).1,(hT T z).2.1⟩
 show wpAny (model P w) (A.deeper (envOfC qual scope s.heap.objs.size f cd)) (leaving (envOfC qual scope s.heap.objs.size f cd) (.ref a)) _ _ s'
 unfold leaving
 refine aac (xK (L:=s.heap.objs.size) I.ok.frames I.stack rfl he hd hh fun h' T k1 k2 k3 k4 k5 k6=>?_)
 have ne:∀ b o,s.heap.get? b=some o->b≠a/\some b≠T0/\b≠s.heap.objs.size:=fun b o q=>⟨fun z=>(by rw [z,C5] at q;cases q),fun z=>(by rw [(Cj b z.symm).2] at q;cases q),aa1 (aae q)⟩
 have nfr:∀ b o,s.heap.get? b=some o->b∉sx outer->b∉sx (envOfC qual scope s.heap.objs.size f cd::outer):=fun b o q hb z=>by
  rcases aaC.mp (I.oA b z) with r|r
  ·exact (ne b o q).2.2 r
  ·exact hb r
 have off:Off (a::(T0.toList++sx (envOfC qual scope s.heap.objs.size f cd::outer))) s'.heap h':=fun b o hb q=>by
  simp only [aaC,aax,not_or] at hb
  exact k1 b o hb.1 (fun z=>hb.2.1 (by rw [<- z];simp)) hb.2.2 q
 refine⟨a,C,H',rfl,I.os,I.bare,⟨fun b o q n hb hx=>?_,fun b o q n hb hx=>?_,fun b o q n hx=>I.base.free b o q n hx,fun b o q hx=>?_,I.base.lR,I.base.k8,I.base.k9⟩,I.bh.off (fun b hb=>?_) off,?_,hE⟩
 ·exact k1 b o (ne b o q).1 (ne b o q).2.1 (nfr b o q hb) (I.base.keep b o q n hb hx)
 ·obtain ⟨sl,q1⟩:=I.base.slot b o q n hb hx
  obtain ⟨L9,q2⟩:=k2 b _ (ne b o q).1 (ne b o q).2.1 q1
  exact⟨L9,q2⟩
 ·obtain ⟨o',q1⟩:=I.base.there b o q hx
  obtain ⟨L9,q2⟩:=k2 b _ (ne b o q).1 (ne b o q).2.1 q1
  exact⟨_,q2⟩
 ·simp only [aaC,aax] at hb
  rcases hb with rfl|hb|hb
  ·exact C4
  ·cases T0 with
   | none=>simp at hb
   | some T1 =>
    simp only [Option.toList_some,aaw] at hb
    rw [hb];exact (Cj T1 rfl).1
  ·exact I.km b hb
 ·refine⟨_,_,some T,k5,(Obj.cls_mapFields _ _).trans hc,(fN _ _).trans JH,Obj.data_mapFields hd _,lI.set,⟨by simp [lI.1],k4,k6⟩,C4,⟨C5,fun _ z=>nomatch z⟩,fun T' e=>?_⟩
  cases e
  refine⟨I.bh.free k3,?_,fun _ z=>nomatch z⟩
  cases q:s.heap.get? T with
  | none=>rfl
  | some o =>
   obtain ⟨o',q1⟩:=I.base.there T o q (by show T∉([]:List Addr);simp)
   rw [k3] at q1;cases q1
def A1(P:Program)(w:World)(K:Frag)(mg:Str->Option Value)(base:Heap)(k:Nat)(x:Str)(ps:List Str)(sp:Sp):Prop :=
 ∃ f fd,lh P w K mg base (ET P w mg) k f fd ps sp/\mg x=some (.ref f)/\PySem.W.keepIn K (.ref f)=true/\Binds K fd ps []
theorem oB.xe{X:Cx}{E:Value->Shared->Prop}{st:List Stmt}{t:TS}(h:oB (X.ik E) st t)(k:∀ e s,E e s->X.xe e s):oB X st t:=fun pins s σ H D I hw =>
 aaq (h pins s σ H D (I.ik _) hw) (fun _ _ z=>z.dQ) k
section
variable {P:Program}{w:World}{K:Frag}{mg:Str->Option Value}{base:Heap}
theorem Def.F8{x:Str}{st:Stmt}{N ps:List Str}{k:Nat}{sp:Sp}(D:Def K mg x st ps)(S:ao N ps (al st))(len:∀ vs H Q E,sp vs H Q E->vs.length=ps.length)
  (di:∀ (f:Addr) (bf:Value) (A:Around) (outer:List Env) (s:Shared) (H:Hp) (vs:List V) (Q:VK) (E:XK),bK k (A.deeper (envOfC x (al st) s.heap.objs.size f bf))->sp vs H Q E ->
   ∃ t,oB ((gP (ET P w mg) P w K mg base N x (al st) f bf A outer s H E).ik (XW (gP (ET P w mg) P w K mg base N x (al st) f bf A outer s H E) fun C _ H'=>E (.ref C.1) C.2 H')) (bw st) t/\t { nx:=fun _ H'=>Q .cJ H',rt:=Q } (start N vs) H):A1 P w K mg base (k+1) x ps sp:=by
 obtain ⟨f,fd,F,hm,hb⟩:=D
 obtain ⟨oc,od,kV,doc,pm,an,bf,ct,An,rfl,lk,lS⟩:=F.ex
 refine⟨f,_,Am lk lS S len fun A outer s H vs Q E hr lX=>?_,hm,F.kp,hb⟩
 obtain ⟨t,h,q⟩:=di f bf A outer s H vs Q E hr lX
 exact⟨t,h.xe fun e s z=>C3 z,q⟩
end
theorem yS{EX:yR}{k:Nat}(F:lh X.prog X.w X.K X.mg X.base (ET X.prog X.w X.mg) k f fd ps sp)(hr:bK k X.A)(hX:∀ e s',XW X EX e s'->X.xe e s')(hex:X.ex=[])(hb:Binds X.K fd ps [])(I1:Inv X pins σ H1 s1)(r:Vals vs us)(q:sp vs H1 Q fun C d H2=>∃ c,C=.ref c/\EX (c,d) σ H2):wpAny (model X.prog X.w) X.A (call (.ref f) us []) (EP X pins σ Q) X.xe s1:=by
 have r2:Vals (vs++[]) (us++[]):=r.append .nil
 have hl:(us++[]).length=ps.length:=by rw [<- r2.length,append_nil];exact F.len _ _ _ _ q
 rw [append_nil] at r2
 refine wpAny_call (codeAny_mono (F.run X.A X.stack s1 H1 ⟨us,[]⟩ (us++[]) vs Q _ hr I1.Mi (hb s1 us I1.jq hl) r2 q) fun r s' hq=>?_)
 cases r with
 | error e =>
  obtain ⟨a,C,H',rfl,ho,hg',un,bh,⟨oe,Xr,T0,e1,e2,e3,e4,e5,e6,e7,e8,e9⟩,c,ec,hE⟩:=hq
  cases ec
  have I2:Inv X pins σ H' s':=I1.HN (ch:=[]) ho un bh hg' fun b z=>absurd z (by simp)
  have nw:∀ b,s1.heap.get? b=none->X.s₀.heap.get? b=none:=fun b z=>by
   cases q:X.s₀.heap.get? b with
   | none=>rfl
   | some o =>
    obtain ⟨o',q1⟩:=I1.base.there b o q (by rw [hex];simp)
    rw [z] at q1;cases q1
  have np:∀ b,s1.heap.get? b=none->∀ p∈X.pn,p.1≠b:=fun b z p hp q=>by
   have:=(I1.pin p (aav _ hp)).1
   rw [q,z] at this;cases this
  exact hX _ _ ⟨a,C,σ,H',rfl,(I2.iF fun p hp=>absurd hp (by simp)).ik _,⟨oe,Xr,T0,e1,e2,e3,e4,e5,e6,e7,⟨nw a e8.1,fun p hp=>np a e8.1 p hp⟩,fun T z=>⟨(e9 T z).1,nw T (e9 T z).2.1,fun p hp=>np T (e9 T z).2.1 p hp⟩⟩,hE⟩
 | ok fl =>
  cases fl with
  | ret u=>exact I1.after hq
  | next=>exact False.elim hq
  | brk=>exact False.elim hq
  | cont=>exact False.elim hq
def JI(sp:Sp)(EX:yR)(t:TA):TE:=fun σ H Q=>t σ H fun vs H1=>sp vs H1 Q fun C d H2=>∃ c,C=.ref c/\EX (c,d) σ H2
section
variable {X:Cx}{EX:yR}{k:Nat}{x:Str}{ps:List Str}{sp:Sp}{p pos:Pos}{e:Expr}{es:List Expr}{t:TA}
theorem dE(O:A1 X.prog X.w X.K X.mg X.base k x ps sp)(hr:bK k X.A)(hX:∀ e s',XW X EX e s'->X.xe e s')(hex:X.ex=[])(ha:PA X (e::es) t)(hg:Gl X x:=by rfl)(wg:(x == ("__debug__":Str))=false:=by decide)(he:starEach (e::es) X.env=(false,eval e X.env)::starEach es X.env:=by rfl)(oy:(backTo pos (starEach es X.env)).any (·.1)=false:=by rfl):
  PE X (.Call (.Name x p) (e::es) [] pos) (JI sp EX t):=by
 obtain ⟨f,fd,F,hm,hk,hb⟩:=O
 intro pins s σ H Q I h
 refine wpAny_Call_Name_kw (iG I hg hm ?_ wg)
 refine PySem.W.callWith_K (h₀:=X.base) I.ok.mod.LY hk (cu (ha pos pins s σ H _ I h) fun us s1 ⟨vs,H1,I1,r,q⟩=>⟨I1.jq,?_⟩) he oy
 exact yS F hr hX hex hb I1 r q
end
end L2
namespace L2
open PySem PySem.Spec PyProof.Rows PySem.W
section
variable {X:Cx}{pins:List (Addr×Obj)}{σ:List (Option V)}{H H':Hp}{s:Shared}{h':Heap}
theorem Inv.qp{t':Nat}{ch:List Addr}(I:Inv X pins σ H s)
  (Ac:∀ b∈ch,X.s₀.heap.get? b=none/\b≠X.env.locals/\(∀ x c,X.env.cells.lookup x=some c->c≠b)/\∀ p∈X.pn++pins,p.1≠b)
  (keep:∀ b o,b≠X.env.locals->b∉X.fs->b∉ch->s.heap.get? b=some o->H b=none->h'.get? b=some o)
  (slot:∀ b o,b≠X.env.locals->b∈X.fs->b∉ch->s.heap.get? b=some o->H b=none->∃ sl,h'.get? b=some { o with slots:=sl }) (free:∀ b o,b∉ch->s.heap.get? b=some o->H b=none->H' b=none)
  (there:∀ b o,b∉ch->s.heap.get? b=some o->∃ o',h'.get? b=some o')
  (lR:∀ b xs,H b=some (.tup xs)->H' b=some (.tup xs)) (k8:∀ b o u,H b=some (.wb o u)->H' b=some (.wb o u)) (k9:∀ b ps,H b=some (.sR ps)->∃ more,H' b=some (.sR (ps++more)))
  (ns:∀ m,s.heap.Ns X.env.locals m->h'.Ns X.env.locals m) (bh:gO X.prog X.w H' h') :
  Inv X pins σ H' { s with heap:=h',toks:=t' }:=by
 have L7:∀ b o,X.s₀.heap.get? b=some o->b≠X.env.locals:=fun b o e=>aa1 (Nat.lt_of_lt_of_le (aae e) I.ok.above)
 have L8:∀ b o,X.s₀.heap.get? b=some o->b∉ch:=fun b o e hb=>by rw [(Ac b hb).1] at e;cases e
 have cellK:∀ x c,X.env.cells.lookup x=some c->∀ v,s.heap.IsCell c v->h'.IsCell c v:=fun x c e v ⟨o,ho,hd⟩=>by
  have HM:c∉ch:=fun z=>(Ac c z).2.2.1 x c e rfl
  by_cases hc:c∈X.fs
  ·obtain ⟨sl,q⟩:=slot c o (I.Fu x c e) hc HM ho (I.dI x c e)
   exact⟨_,q,hd⟩
  ·exact⟨o,keep c o (I.Fu x c e) hc HM ho (I.dI x c e),hd⟩
 refine⟨I.ok,I.os,I.bare,⟨fun b o e n hb hx=>?_,fun b o e n hb hx=>?_,fun b o e n hx=>?_,fun b o e hx=>?_,fun b xs e=>lR b xs (I.base.lR b xs e),fun b o xs e=>k8 b o xs (I.base.k8 b o xs e),fun b ps e=>?_⟩,?_,fun x c e=>?_,?_,fun x c e=>?_,fun p hp=>?_,bh,I.len⟩
 ·exact keep b o (L7 b o e) hb (L8 b o e) (I.base.keep b o e n hb hx) (I.base.free b o e n hx)
 ·obtain ⟨sl,e1⟩:=I.base.slot b o e n hb hx
  obtain ⟨L9,e2⟩:=slot b _ (L7 b o e) hb (L8 b o e) e1 (I.base.free b o e n hx)
  exact⟨L9,e2⟩
 ·obtain ⟨o',e1⟩:=I.base.there b o e hx
  exact free b o' (L8 b o e) e1 (I.base.free b o e n hx)
 ·obtain ⟨o',e1⟩:=I.base.there b o e hx
  exact there b o' (L8 b o e) e1
 ·obtain ⟨m1,e1⟩:=I.base.k9 b ps e
  obtain ⟨m2,e2⟩:=k9 b _ e1
  exact⟨m1++m2,by rw [e2,Array.append_assoc]⟩
 ·obtain ⟨m,hn,hl⟩:=I.loc
  refine⟨m,ns m hn,fun i x v e1 e2 e3=>?_⟩
  obtain ⟨u,r,l⟩:=hl i x v e1 e2 e3
  refine⟨u,r,?_⟩
  rcases l with l|⟨k,c,e,z⟩
  ·exact .inl l
  ·exact .inr ⟨k,c,e,cellK x c e _ z⟩
 ·obtain ⟨v,z⟩:=I.cell x c e
  exact⟨v,cellK x c e v z⟩
 ·obtain ⟨m,⟨o,_,_,ho,_⟩,_⟩:=I.loc
  exact free _ o (fun z=>(Ac _ z).2.1 rfl) ho I.free
 ·obtain ⟨v,o,ho,hd⟩:=I.cell x c e
  exact free c o (fun z=>(Ac c z).2.2.1 x c e rfl) ho (I.dI x c e)
 ·obtain ⟨e,n,ne,nf,d⟩:=I.pin p hp
  have HM:p.1∉ch:=fun z=>(Ac p.1 z).2.2.2 p hp rfl
  exact⟨keep p.1 p.2 ne nf HM e n,free p.1 p.2 HM e n,ne,nf,d⟩
theorem Inv.yT(I:Inv X pins σ H s)(he:s.heap.get? a=some oe)(hd:oe.data=.fields vs):a≠X.env.locals/\(∀ x c,X.env.cells.lookup x=some c->c≠a)/\a∉X.fs:=by
 refine⟨fun z=>?_,fun x c e z=>?_,fun z=>?_⟩
 ·obtain ⟨m,⟨o,_,_,ho,Tf,_⟩,_⟩:=I.loc
  rw [z,ho] at he;cases he;rw [Tf] at hd;cases hd
 ·obtain ⟨v,o,ho,Tf⟩:=I.cell x c e
  rw [z,he] at ho;cases ho;rw [Tf] at hd;cases hd
 ·obtain ⟨_,o,ho,yP⟩:=I.iE.mem z
  rw [he] at ho;cases ho;exact yP vs hd
end
theorem MV{K:Frag}{h:Heap}{C:Addr}{bmB:List Value}{newId:String}(X:K.In h)(q:excIn K C bmB newId=true) :
  ∃ bm N nm q bs hdct sn sub ab col dd k0 k1 k2 k3 k5 mN,h.get? C=some (excClassObj nm q C N bs bm hdct sn sub ab col dd k0 k1 k2 k3 k5 newId)/\h.Ns N mN/\mN "__init__"=none/\OwnTail h bmB bm:=by
 unfold excIn at q
 split at q
 ·rename_i dd cd sl ho
  split at q
  ·rename_i C' bm k0 k1 k2 k3 n k5 hm hs
   simp only [Bool.and_eq_true,beq_iff_eq,Bool.not_eq_true'] at q
   obtain ⟨⟨⟨⟨⟨rfl,rfl⟩,Vo⟩,ht⟩,bh⟩,Vp⟩:=q
   obtain ⟨nm,bs,mro,ns,qn,hd,sn,sub,ab,col,del⟩:=cd
   dsimp only at hm Vo bh Vp
   subst hm Vo
   have Q6:sl=#[k0,k1,k2,k3,some (.builtin n),k5]:=by
    obtain ⟨l⟩:=sl
    simp only at hs
    rw [hs]
   subst Q6
   exact⟨bm,ns,nm,qn,bs,hd,sn,sub,ab,col,dd,k0,k1,k2,k3,k5,_,X _ _ ho,.of_isNs (isNs_of_in X bh),nsMap_none_of_in X bh Vp,tail_of_in X ht⟩
  ·cases q
 ·cases q
section
variable {X:Cx}{EX:yR}
def JJ(EX:yR)(C:Addr)(ta:TA):TS:=fun _ σ H=>ta σ H fun vs H1=>vs.length<=1000/\EX (C,none) σ H1
theorem fO{x:Str}{np rF pos:Pos}{e0:Expr}{rest:List Expr}{C:Addr}{B Bn newId nid Q7 inN:String}{bm bmN:List Value}{ta:TA}(q:excIn X.K C bm newId=true)(Fn:ExcBaseFacts Bn newId inN bmN)(hBn:bm.contains (.type Bn)=true)
  (FB:ExcBaseFacts B nid Q7 bm) (hc:X.calm=true) (hX:∀ e s',XW X EX e s'->X.xe e s') (hex:X.ex=[]) (hg:Gl X x) (hm:X.mg x=some (.ref C)) (ha:PA X (e0::rest) ta)
  (he:starEach (e0::rest) X.env=(false,eval e0 X.env)::starEach rest X.env:=by rfl) (oy:(backTo rF (starEach rest X.env)).any (·.1)=false:=by rfl) (wg:(x == ("__debug__":Str))=false:=by decide) :
  PS X (.Raise (some (.Call (.Name x np) (e0::rest) [] rF)) none pos) (JJ EX C ta):=by
 intro pins s σ H D I h
 obtain ⟨bm',N,nm,qn,bs,hdct,sn,sub,ab,col,dd,k0,k1,k2,k3,k5,mN,hC,hN,Vp,T⟩:=MV I.ok.mod.LY q
 refine wpAny_Raise_call_subU (C:=C) (nm:=nm) (q:=qn) (N:=N) (bs:=bs) (bm:=bm') (hdct:=hdct) (sn:=sn) (sub:=sub) (ab:=ab) (col:=col) (dd:=dd) (k0:=k0) (k1:=k1) (k2:=k2) (k3:=k3) (k5:=k5)
  Fn hBn FB (mN:=mN) (T.hasType FB.hasBase) (I.ok.hd hc) (by rw [he];show (false || (backTo rF (starEach rest X.env)).any (·.1))=false;rw [oy];rfl) Vp (iG I hg hm ⟨rfl,?_⟩ wg)
 have hh:=ha rF pins s σ H _ I h
 rw [he] at hh ⊢
 refine Calls.evalArgs_plain (aaq hh (fun us s2 z=>?_) fun _ _ y=>y)
 obtain ⟨vs,H1,I1,r,hl,hE⟩:=z
 refine⟨rfl,by rw [<- r.length];exact aai (dO hl),I1.bk _ _ hC,hN.keeps I1.bk,T.keeps I1.bk,fun h' e lC=>hX _ _ ?_⟩
 obtain ⟨t,het,htn,htt⟩:=lC.there
 have nw:X.s₀.heap.get? e=none:=by
  cases q:X.s₀.heap.get? e with
  | none=>rfl
  | some o =>
   obtain ⟨o',q1⟩:=I1.base.there e o q (by rw [hex];simp)
   rw [lC.new] at q1;cases q1
 have np:∀ p∈X.pn,p.1≠e:=fun p hp z=>by
  have:=(I1.pin p (aav _ hp)).1
  rw [z,lC.new] at this;cases this
 exact⟨e,(C,none),σ,H1,rfl,((I1.kept (t':=s2.toks) lC.keeps).iF fun p hp=>absurd hp (by simp)).ik _,⟨_,_,none,het,rfl,rfl,rfl,⟨by simp,fun _=>rfl⟩,rfl,I1.bh.free lC.new,⟨nw,np⟩,fun T z=>nomatch z⟩,hE⟩
end
end L2
namespace L2
open PySem PySem.Spec PyProof.Rows PySem.W
structure A2(K:Frag)(D:Addr):Prop where
 ty:typeIn K (.ref D)=some (.type "type")
 cl:(clsIn K D).isSome=true
 be:subIn K (.ref D) (.type "BaseException")=some true
theorem A3{K:Frag}{M:Model}{A:Around}{E:Value->Shared->Prop}{s:Shared}{a C D:Addr}{oe:Obj}{b:Bool}{Q:Bool->Shared->Prop}(V:A2 K D)(X:K.In s.heap)(he:s.heap.get? a=some oe)(hc:oe.cls=.ref C)
  (Mw:subIn K (.ref C) (.ref D)=some b) (h:Q b s):wpAny M A (excMatches (.ref a) (.ref D)) Q E s:=by
 obtain ⟨hh,g,d,t,os⟩:=s
 have L1:=looks_typeIn (M:=M) X V.ty
 have L2:Looks M hh (typeOf (.ref a)) (.ref C):=hc ▸ (Looks.ld he).andThen .now
 have L3:=looks_subIn (M:=M) X V.be
 have L4:=looks_subIn (M:=M) X Mw
 have L5:Looks M hh (isType (.ref D)) true:=by
  obtain ⟨cd,lS⟩:=aao.mp V.cl
  unfold clsIn at lS
  split at lS
  ·rename_i c' d' cd' L9 ho
   intro A' Q' E' s' k q
   unfold isType loadHead
   exact aac (wpAny_loadPart (k _ _ (X _ _ ho)) (aap q))
  ·cases lS
 have f:=tc_notTuple
 unfold excMatches isInstance isExcClass
 refine aac ?_
 refine aac (L1.at (wpAny_of_eq f ?_))
 simp only [Bool.false_eq_true,if_false]
 refine aac (aap ?_)
 simp only [forIn_cons,forIn_nil]
 refine aac (aac (aac (aac (L5.at ?_))))
 simp only [if_true]
 refine L3.at ?_
 simp only [Bool.not_true,Bool.false_eq_true,if_false]
 refine aap (aap ?_)
 refine aac (L2.at ?_)
 refine aac (aac (aac (L4.at ?_)))
 cases b with
 | true =>
  simp only [if_true]
  exact aap (aap (aap h))
 | false =>
  simp only [Bool.false_eq_true,if_false]
  exact aap (aap (aap h))
end L2
namespace L2
open PySem PySem.Spec PyProof.Rows PySem.W
abbrev JK(X:Cx)(pins:List (Addr×Obj)):Cx:={ X with pn:=X.pn++pins }
abbrev JL(X:Cx)(a:Addr):Cx:={ X with A:=X.A.mark (some (.ref a)),calm:=false,xe:=fun _ _=>False }
section
variable {X:Cx}{pins:List (Addr×Obj)}{σ:St}{H:Hp}{s:Shared}
theorem Inv.Y6(I:Inv X pins σ H s):Inv (JK X pins) [] σ H s :=
 ⟨⟨I.ok.mod,I.ok.kind,I.ok.glob,I.ok.blt,I.ok.above,I.ok.inj,I.ok.has,I.ok.LH,I.ok.hd,I.ok.frames,I.ok.LZ,I.ok.Po,I.ok.bs,I.ok.Ci,I.ok.wc,I.ok.ya,I.ok.iE,I.ok.Ft⟩,I.os,I.bare,I.base,I.loc,I.cell,I.free,I.dI,fun p hp=>I.pin p (by simpa using hp),I.bh,I.len⟩
theorem Inv.JM(I:Inv (JK X pins) [] σ H s):Inv X pins σ H s :=
 ⟨⟨I.ok.mod,I.ok.kind,I.ok.glob,I.ok.blt,I.ok.above,I.ok.inj,I.ok.has,I.ok.LH,I.ok.hd,I.ok.frames,I.ok.LZ,I.ok.Po,I.ok.bs,I.ok.Ci,I.ok.wc,I.ok.ya,I.ok.iE,I.ok.Ft⟩,I.os,I.bare,I.base,I.loc,I.cell,I.free,I.dI,fun p hp=>I.pin p (by simpa using hp),I.bh,I.len⟩
theorem Inv.Vq(I:Inv X pins σ H s)(a:Addr):Inv (JL X a) pins σ H s :=
 ⟨⟨I.ok.mod,I.ok.kind,I.ok.glob,I.ok.blt,I.ok.above,I.ok.inj,I.ok.has,I.ok.LH,(fun z=>nomatch z),I.ok.frames,I.ok.LZ,I.ok.Po,I.ok.bs,I.ok.Ci,I.ok.wc,I.ok.ya,I.ok.iE,I.ok.Ft⟩,I.os,I.bare,I.base,I.loc,I.cell,I.free,I.dI,I.pin,I.bh,I.len⟩
theorem Inv.MW(Y7:X.calm=true->X.A.handled=none)(I:Inv (JL X a) pins σ H s):Inv X pins σ H s :=
 ⟨⟨I.ok.mod,I.ok.kind,I.ok.glob,I.ok.blt,I.ok.above,I.ok.inj,I.ok.has,I.ok.LH,Y7,I.ok.frames,I.ok.LZ,I.ok.Po,I.ok.bs,I.ok.Ci,I.ok.wc,I.ok.ya,I.ok.iE,I.ok.Ft⟩,I.os,I.bare,I.base,I.loc,I.cell,I.free,I.dI,I.pin,I.bh,I.len⟩
theorem Inv.Vr{t':Nat}(I:Inv X pins σ H s)(he:s.heap.get? a=some oe)(hc:oe.cls=.ref C)(JH:oe.dict=d)(hd:oe.data=.fields vs)(hH:H a=none)(h0:X.s₀.heap.get? a=none)(hp:∀ p∈X.pn++pins,p.1≠a)(hq:q->vs[2]?=some .none):
  Inv X pins σ (upd H a (tR q a C d)) { s with toks:=t' }:=by
 obtain ⟨n1,n2,n3⟩:=I.yT he hd
 refine I.qp (h':=s.heap) (ch:=[a]) (fun b hb=>?_) (fun b o _ _ _ e _=>e) (fun b o _ _ _ e _=>⟨o.slots,e⟩) (fun b o hb e n=>?_) (fun b o _ e=>⟨o,e⟩) (fun b xs e=>?_) (fun b o u e=>?_) (fun b ps e=>⟨#[],?_⟩) (fun m hm=>hm) ?_
 ·obtain rfl:b=a:=by simpa using hb
  exact⟨h0,n1,n2,hp⟩
 ·rw [ay (by simpa using hb)];exact n
 ·rw [ay (aJ e hH)];exact e
 ·rw [ay (aJ e hH)];exact e
 ·rw [ay (aJ e hH)];simpa using e
 ·intro b o e
  by_cases hb:b=a
  ·subst hb
   rw [aw] at e
   cases e
   refine⟨⟨oe,he,hc,by unfold notCls;rw [hd],JH,fun z=>⟨vs,hd,hq z⟩⟩,⟨oe,he⟩,fun h1 h2 z k=>?_⟩
   obtain ⟨ox,z1,z2⟩:=z
   exact⟨ox,k _ z1,z2⟩
  ·rw [ay hb] at e
   exact (I.bh b o e).rB (fun _ _ _ q=>q) (fun c q=>by rw [ay (aJ q hH)];exact q) fun c xs q=>by rw [ay (aJ q hH)];exact q
theorem Inv.MX{i:Nat}{t':Nat}(I:Inv X pins σ H s)(hN:X.N.Nodup)(hi:X.N[i]?=some x)(hm:s.heap.Ns X.env.locals m)(Ee:h'.Ns X.env.locals (fun y=>if y=x then v else m y))(hs:Heap.SameBut X.env.locals s.heap h'):
  Inv X pins (σ.set i none) H { s with heap:=h',toks:=t' }:=by
 obtain ⟨m2,hn,hl⟩:=id I.loc
 obtain ⟨oL,es,ep,W5,rL⟩:=id hn
 have em:m2=m:=by
  obtain ⟨o1,es1,ep1,Tg,Th,_,Y8⟩:=hn
  obtain ⟨o2,es2,ep2,wj,CD,_,Y9⟩:=hm
  rw [Tg] at wj;cases wj;rw [Th] at CD;cases CD
  funext y
  rw [<- Y8,<- Y9]
 subst em
 have W4:i<σ.length:=by rw [I.len];exact (aad.mp hi).1
 have Fu:=I.Fu
 refine⟨I.ok,I.os,I.bare,⟨fun b o e n hb hx=>?_,fun b o e n hb hx=>?_,I.base.free,fun b o e hx=>?_,I.base.lR,I.base.k8,I.base.k9⟩,⟨_,Ee,fun j y v' e1 e2 e3=>?_⟩,fun y c e=>?_,I.free,I.dI,fun p hp=>?_,?_,by simpa using I.len⟩
 ·exact (hs.2 b (aa1 (Nat.lt_of_lt_of_le (aae e) I.ok.above))).trans (I.base.keep b o e n hb hx)
 ·obtain ⟨sl,e1⟩:=I.base.slot b o e n hb hx
  exact⟨sl,(hs.2 b (aa1 (Nat.lt_of_lt_of_le (aae e) I.ok.above))).trans e1⟩
 ·obtain ⟨o',e1⟩:=I.base.there b o e hx
  exact⟨o',(hs.2 b (aa1 (Nat.lt_of_lt_of_le (aae e) I.ok.above))).trans e1⟩
 ·by_cases hj:j=i
  ·subst hj
   rw [List.getElem?_set_self W4] at e2
   cases e2
  ·rw [List.getElem?_set_ne (Ne.symm hj)] at e2
   obtain ⟨u',r',q⟩:=hl j y v' e1 e2 e3
   refine⟨u',r',?_⟩
   rcases q with ⟨k,e⟩|⟨k,c,e,z⟩
   ·refine .inl ⟨k,?_⟩
    have:y≠x:=fun e=>hj (sS hN e1 (e ▸ hi))
    simp [this,e]
   ·exact .inr ⟨k,c,e,z.sameBut hs (Fu y c e)⟩
 ·obtain ⟨w',z⟩:=I.cell y c e
  exact⟨w',z.sameBut hs (Fu y c e)⟩
 ·obtain ⟨e,n,ne,nf,d⟩:=I.pin p hp
  exact⟨(hs.2 p.1 ne).trans e,n,ne,nf,d⟩
 ·intro b ob e
  refine (I.bh b ob e).rB (fun c w' hc q=>(hs.2 c ?_).trans q) (fun _ q=>q) fun _ _ q=>q
  rintro rfl
  rcases hc with rfl|hc
  ·rw [I.free] at e;cases e
  ·rw [I.free] at hc;cases hc
end
def Vs(K:Frag)(D0:Addr)(i:Nat)(pl:Addr->Prop)(tb:yR->TS)(th:Addr->TS):TS:=fun D σ H =>
 tb (fun C σ' H'=>subIn K (.ref C.1) (.ref D0)=some true/\∀ a,H' a=none->th a { nx:=fun σ2 H2=>D.nx (σ2.set i none) H2,rt:=D.rt,bk:=fun σ2 H2=>D.bk (σ2.set i none) H2,ct:=fun σ2 H2=>D.ct (σ2.set i none) H2 } (σ'.set i (some (.ref a))) (upd H' a (tR (pl C.1) a C.1 C.2))) D σ H
theorem Q8{X:Cx}{body:List Stmt}{x n:Str}{np oQ pos:Pos}{b0:Stmt}{ON:List Stmt}{i:Nat}{D0:Addr}{pl:Addr->Prop}{tb:yR->TS}{th:Addr->TS}(oy:∀ C,pl C->tW X.mg C)(V:A2 X.K D0)(hex:X.ex=[])
  (rD:X.stack=X.env::X.outer) (wt:X.env.frame=some X.env.locals) (hN:X.N.Nodup) (hi:X.N[i]?=some n) (oW:X.env.scope.names.lookup n=some .local) (hg:Gl X x) (hm:X.mg x=some (.ref D0))
  (hb:∀ pins EX,oB ((JK X pins).ik (XW (JK X pins) EX)) body (tb EX)) (hs:∀ a,oB (JL X a) (b0::ON) (th a)) (wg:(x == ("__debug__":Str))=false:=by decide) :
  PS X (.Try body [.ExceptHandler (some (.Name x np)) (some n) (b0::ON) oQ] [] [] pos) (Vs X.K D0 i pl tb th):=by
 intro pins s σ H D I h
 have back:∀ {f:Flow} {s':Shared} {E:Value->Shared->Prop},SP ((JK X pins).ik E) [] D f s'->SP X pins D f s':=fun {f s' E} q=>by
  cases f with
  | next=>obtain ⟨σ',H',J,z⟩:=q;exact⟨σ',H',(Inv.dQ J).JM,z⟩
  | brk=>obtain ⟨σ',H',J,z⟩:=q;exact⟨σ',H',(Inv.dQ J).JM,z⟩
  | cont=>obtain ⟨σ',H',J,z⟩:=q;exact⟨σ',H',(Inv.dQ J).JM,z⟩
  | ret u=>obtain ⟨v,σ',H',J,r,z⟩:=q;exact⟨v,σ',H',(Inv.dQ J).JM,r,z⟩
 refine wpAny_Try_except (aaq (hb pins _ [] s σ H D (I.Y6.ik _) h) (fun f s1 q=>?_) (fun e s1 q=>?_))
 ·cases f with
  | next=>exact wpAny_execs_nil (back q)
  | brk=>exact back q
  | cont=>exact back q
  | ret u=>exact back q
 obtain ⟨a,C,σ',H',rfl,I0,⟨oe,vs,T0,he,hc,JH,hd,lI,hh,C4,⟨LM,MY⟩,hT⟩,Mw,hth⟩:=q
 have I1:Inv X pins σ' H' s1:=(Inv.dQ I0).JM
 have C5:X.s₀.heap.get? a=none:=LM
 have Vt:∀ p∈X.pn++pins,p.1≠a:=MY
 have Cj:∀ T,T0=some T->H' T=none/\X.s₀.heap.get? T=none/\∀ p∈X.pn++pins,p.1≠T:=hT
 have Za:X.A.frames=some (X.env::X.outer):=by rw [<- rD];exact I1.ok.frames
 refine xK (base:=X.base) (L:=X.env.locals) Za (rD ▸ I1.stack) wt he hd hh fun h1 T k1 k2 k3 k4 k5 k6=>?_
 obtain ⟨n1,n2,n3⟩:=I1.yT he hd
 have t1:∀ T',T0=some T'->∃ oT ts,s1.heap.get? T'=some oT/\oT.data=.fields ts:=fun T' z=>by
  subst z
  obtain ⟨_,_,oT,ts,q1,q2,_⟩:=hh
  exact⟨oT,ts,q1,q2⟩
 have Q9:∀ b,b∈sx (X.env::X.outer)->b=X.env.locals\/b∈X.fs:=fun b hb=>by
  rcases aaC.mp (I1.oA b (rD ▸ hb)) with z|z
  ·exact .inl z
  ·exact .inr z
 have off:Off (a::(T0.toList++sx (X.env::X.outer))) s1.heap h1:=fun b o hb q=>by
  simp only [aaC,aax,not_or] at hb
  exact k1 b o hb.1 (fun z=>hb.2.1 (by rw [<- z];simp)) hb.2.2 q
 have Ra:gO X.prog X.w H' h1:=I1.bh.off (fun b hb=>by
  simp only [aaC,aax] at hb
  rcases hb with rfl|hb|hb
  ·exact C4
  ·cases T0 with
   | none=>simp at hb
   | some T1 =>
    simp only [Option.toList_some,aaw] at hb
    rw [hb];exact (Cj T1 rfl).1
  ·exact I1.km b (rD ▸ hb)) off
 have F9:∀ b,b∉(a::T0.toList)->b≠a/\some b≠T0:=fun b hb=>by
  simp only [aaC,not_or] at hb
  exact⟨hb.1,fun z=>hb.2 (by rw [<- z];simp)⟩
 have I2:Inv X pins σ' H' { s1 with heap:=h1 }:=by
  refine I1.qp (h':=h1) (t':=s1.toks) (ch:=a::T0.toList) (fun b hb=>?_) (fun b o b1 b2 b3 e _=>?_) (fun b o b1 b2 b3 e _=>?_) (fun b o _ _ n=>n) (fun b o b3 e=>?_) (fun b xs e=>e) (fun b o u e=>e) (fun b ps e=>⟨#[],by rw [e];simp⟩) (fun m hm=>?_) Ra
  ·rcases aaC.mp hb with rfl|hb
   ·exact⟨C5,n1,n2,Vt⟩
   ·cases T0 with
    | none=>simp at hb
    | some T1 =>
     simp only [Option.toList_some,aaw] at hb
     subst hb
     obtain ⟨oT,ts,q1,q2⟩:=t1 _ rfl
     obtain ⟨m1,m2,m3⟩:=I1.yT q1 q2
     exact⟨(Cj _ rfl).2.1,m1,m2,(Cj _ rfl).2.2⟩
  ·refine k1 b o (F9 b b3).1 (F9 b b3).2 (fun z=>?_) e
   rcases Q9 b z with q|q
   ·exact b1 q
   ·exact b2 q
  ·exact k2 b o (F9 b b3).1 (F9 b b3).2 e
  ·obtain ⟨sl,q⟩:=k2 b o (F9 b b3).1 (F9 b b3).2 e
   exact⟨_,q⟩
  ·obtain ⟨o,es,ep,ho,HL,r⟩:=hm
   obtain ⟨sl,q⟩:=k2 _ o (fun z=>n1 z.symm) (fun z=>by
    obtain ⟨oT,ts,q1,q2⟩:=t1 _ z.symm
    exact (I1.yT q1 q2).1 rfl) ho
   exact⟨_,es,ep,q,HL,r⟩
 have T2:H' T=none:=I1.bh.free k3
 have T3:X.s₀.heap.get? T=none:=by
  cases q:X.s₀.heap.get? T with
  | none=>rfl
  | some o =>
   obtain ⟨o',q1⟩:=I1.base.there T o q (by rw [hex];simp)
   rw [k3] at q1;cases q1
 have T4:∀ p∈X.pn++pins,p.1≠T:=fun p hp z=>by
  have:=(I1.pin p hp).1
  rw [z,k3] at this;cases this
 refine wpAny_handleBy_cons (codeAny_handlers_test (iG (X:=JL X a) (I2.Vq a) hg hm ?_ wg)) (by intro z;cases z)
 refine A3 V I2.jq k5 ((Obj.cls_mapFields _ _).trans hc) Mw ?_
 refine codeAny_handlers_suite_as (flight_again k5 (Obj.data_mapFields hd _) ⟨by simp [lI.1],k4,k6⟩ fun h2 f1 f2=>?_)
 have I3:Inv X pins σ' H' { s1 with heap:=h2 }:=by
  obtain ⟨oT,ts,q1,q2,q3⟩:=k6
  obtain ⟨m1,m2,m3⟩:=I2.yT (a:=T) q1 q2
  have Rb:gO X.prog X.w H' h2:=I2.bh.off (ch:=[T]) (fun b hb=>by rw [show b=T by simpa using hb];exact T2) fun b o hb q=>f1 b o (by simpa using hb) q
  refine Inv.qp (s:={ s1 with heap:=h1 }) (h':=h2) (t':=s1.toks) (ch:=[T]) I2 (fun b hb=>?_) (fun b o b1 b2 b3 e _=>f1 b o (by simpa using b3) e) (fun b o b1 b2 b3 e _=>⟨o.slots,f1 b o (by simpa using b3) e⟩) (fun b o _ _ n=>n) (fun b o b3 e=>⟨o,f1 b o (by simpa using b3) e⟩) (fun b xs e=>e) (fun b o u e=>e) (fun b ps e=>⟨#[],by rw [e];simp⟩) (fun m hm=>?_) Rb
  ·obtain rfl:b=T:=by simpa using hb
   exact⟨T3,m1,m2,T4⟩
  ·obtain ⟨o,es,ep,ho,HL,r⟩:=hm
   exact⟨o,es,ep,f1 _ o (fun z=>m1 z.symm) ho,HL,r⟩
 have I4:Inv X pins σ' (upd H' a (tR (pl C.1) a C.1 C.2)) { s1 with heap:=h2 }:=I3.Vr (t':=s1.toks) (f1 a _ (Ne.symm k4) k5) ((Obj.cls_mapFields _ _).trans hc) ((fN _ _).trans JH) (Obj.data_mapFields hd _) C4 C5 Vt (fun z=>lI.set.2 (oy _ z))
 refine sU (X:=JL X a) (v:=.ref a) (I4.Vq a) hN hi (Or.inl oW) rfl (fun s5 I6=>?_) (Or.inr oW)
 refine aaq (hs a pins s5 _ _ _ I6 (hth a C4)) (fun f s6 q=>?_) (fun _ _ z=>z.elim)
 have Fv:(X.env.scope.kind == .class || (X.env.scope.kind == .module && X.env.locals != X.env.globals))=false:=by rw [I1.ok.kind];rfl
 cases f with
 | next =>
  obtain ⟨σ2,H2,J,z⟩:=q
  have J':=J.MW I1.ok.hd
  obtain ⟨m,lC,_⟩:=id J'.loc
  exact wpAny_nameGoes_keeps oW lC Fv fun h' v hn MZ=>⟨_,H2,J'.MX hN hi lC hn MZ,z⟩
 | brk =>
  obtain ⟨σ2,H2,J,z⟩:=q
  have J':=J.MW I1.ok.hd
  obtain ⟨m,lC,_⟩:=id J'.loc
  exact wpAny_nameGoes_keeps oW lC Fv fun h' v hn MZ=>⟨_,H2,J'.MX hN hi lC hn MZ,z⟩
 | cont =>
  obtain ⟨σ2,H2,J,z⟩:=q
  have J':=J.MW I1.ok.hd
  obtain ⟨m,lC,_⟩:=id J'.loc
  exact wpAny_nameGoes_keeps oW lC Fv fun h' v hn MZ=>⟨_,H2,J'.MX hN hi lC hn MZ,z⟩
 | ret u =>
  obtain ⟨v0,σ2,H2,J,r,z⟩:=q
  have J':=J.MW I1.ok.hd
  obtain ⟨m,lC,_⟩:=id J'.loc
  exact wpAny_nameGoes_keeps oW lC Fv fun h' v hn MZ=>⟨v0,_,H2,J'.MX hN hi lC hn MZ,r,z⟩
end L2
namespace L2
open PySem PySem.Spec PyProof.Rows PySem.W
def JN(K:Frag):List V->Hp->VK->Prop:=fun xs H Q=>∃ (q:Prop) (a C:Addr) (d:Option Addr) (c:V) (b:Bool),xs=[.ref a,c]/\H a=some (tR q a C d)/\C2 H d/\rM K C /\
 ((∃ n,c=.ty n/\kitOne K (.ref C) (.type n)=some b)\/(∃ D,c=.ref D/\kitOne K (.ref C) (.ref D)=some b)\/∃ (tp:Addr) (Ds:List Addr),c=.ref tp/\aC K H tp (Ds.map V.ref)/\kitAny K (.ref C) (Ds.map Value.ref)=some b)/\Q (.bl b) H
theorem xM:∀ {Ds:List Addr} {us:List Value},Vals (Ds.map V.ref) us->us=Ds.map Value.ref
 | [],_,.nil=>rfl
 | _::_,_,.cons r t=>by
  have e:=xM t
  cases r
  rw [e];rfl
section
variable {X:Cx}
theorem JO(I:Inv X pins σ H s)(hH:H a=some (tR q a C d))(Zb:C2 H d)(V:rM X.K C):
  ∃ ox od,PySem.W.InstAt s.heap a ox C od/\findObj X.K C od "__class__"=some (.bind (.builtin "getset_descriptor.__get__") (.builtin "object.__class__")):=by
 obtain ⟨⟨ox,h1,h2,h3,h4,_⟩,_⟩:=I.bh a _ hH
 cases d with
 | none=>exact⟨ox,none,⟨h1,h2,h3,by rw [h4];trivial⟩,V.fc⟩
 | some dx =>
  obtain ⟨fs,e,l⟩:=Zb dx rfl
  obtain ⟨mA,n,r⟩:=I.bh dx _ e
  obtain ⟨od,ho,hl⟩:=xm n
  have hn:mA "__class__"=none:=lQ.none_of (by rw [<- l];exact r _)
  exact⟨ox,some od,⟨h1,h2,h3,by rw [h4];exact ho⟩,JF V.fc (by rw [hl,hn])⟩
theorem JP:bM X (.builtin "isinstance") (JN X.K):=by
 intro pins s σ H xs us Q I r h
 obtain ⟨_,a,C,d,c,b,rfl,hH,Zb,V,ty,q⟩:=h
 obtain ⟨u,c',rfl,ru,rc⟩:=vals2 r
 obtain rfl:u=Value.ref a:=ru
 have fin:∀ tk,EP X pins σ Q (.bool b) { s with toks:=tk }:=fun tk=>⟨.bl b,H,I.tok tk,rfl,q⟩
 have hx:=JO I hH Zb V
 rcases ty with ⟨n,rfl,e⟩|⟨D,rfl,e⟩|⟨tp,Ds,rfl,hs,e⟩
 ·obtain rfl:c'=Value.type n:=rc
  exact kia_one (tQ V) I.jq hx e (fun z=>nomatch z) fin
 ·obtain rfl:c'=Value.ref D:=rc
  exact kia_one (tQ V) I.jq hx e (fun z=>nomatch z) fin
 ·obtain rfl:c'=Value.ref tp:=rc
  obtain ⟨its,rv,p,_⟩:=I.tuple hs
  obtain ⟨⟨oc,od,da,sl⟩,h1,h2,n,h3⟩:=p
  dsimp only at h2 h3
  subst h2 h3
  rw [xM rv] at h1
  exact kia_tup (tQ V) I.jq hx h1 e (fun z=>nomatch z) fin
theorem dF(K:Frag)(hK:X.K=K):bM X (.builtin "isinstance") (JN K):=hK ▸ JP
variable {K:Frag}{H:Hp}{Q:VK}
theorem Rc{n:String}{b:Bool}(W:rM K C)(e:H a=some (tR q a C none))(k:kitOne K (.ref C) (.type n)=some b)(h:Q (.bl b) H):JN K [.ref a,.ty n] H Q:=⟨q,a,C,_,_,b,rfl,e,C2.none,W,.inl ⟨n,rfl,k⟩,h⟩
theorem eA{b:Bool}(W:rM K C)(e:H a=some (tR q a C none))(k:kitOne K (.ref C) (.ref D)=some b)(h:Q (.bl b) H):JN K [.ref a,.ref D] H Q:=⟨q,a,C,_,_,b,rfl,e,C2.none,W,.inr (.inl ⟨D,rfl,k⟩),h⟩
theorem Rf{q:Prop}{a C tp:Addr}{Ds:List Addr}{b:Bool}(W:rM K C)(e:H a=some (tR q a C none))(hs:aC K H tp (Ds.map V.ref))(k:kitAny K (.ref C) (Ds.map Value.ref)=some b)(h:Q (.bl b) H):JN K [.ref a,.ref tp] H Q:=⟨q,a,C,_,_,b,rfl,e,C2.none,W,.inr (.inr ⟨tp,Ds,rfl,hs,k⟩),h⟩
end
section
variable {K:Frag}{D:Ends}{σ:St}{H:Hp}{Q:VK}{EX:yR}
theorem M0(h:ts σ H fun vs H1=>sp vs H1 Q fun C d H2=>∃ c,C=.ref c/\EX (c,d) σ H2):JI sp EX ts σ H Q:=h
theorem M1(h:ts σ H fun vs H1=>vs.length<=1000/\EX (C,none) σ H1):JJ EX C ts D σ H:=h
theorem Vu{i:Nat}{pl:Addr->Prop}{tb:yR->TS}{th:Addr->TS}(h:tb (fun C σ' H'=>subIn K (.ref C.1) (.ref D0)=some true/\∀ a,H' a=none->th a { nx:=fun σ2 H2=>D.nx (σ2.set i none) H2,rt:=D.rt,bk:=fun σ2 H2=>D.bk (σ2.set i none) H2,ct:=fun σ2 H2=>D.ct (σ2.set i none) H2 } (σ'.set i (some (.ref a))) (upd H' a (tR (pl C.1) a C.1 C.2))) D σ H):Vs K D0 i pl tb th D σ H:=h
end
end L2
namespace L2
open PySem PySem.Spec PyProof.Rows PySem.W
section
variable {K:Frag}{C D:Addr}{cd:ClassData}
theorem rM.mk'(q1:findIn K (.ref C) "__getattribute__"=some (some (.builtin "BaseException.__getattribute__")))(q2:findIn K (.ref C) "__getattr__"=some none)(q3:clsIn K C=some cd)(q4:findIn K (.ref C) "__class__"=some (some (.builtin "object.__class__")))(q5:specialIn K (.builtin "object.__class__") "__get__"=some (some (.builtin "getset_descriptor.__get__")))(q6:takesIn K (.builtin "object.__class__")=some true)(q7:mroIn K C (.type "object")=some true)(q8:subIn K (.ref C) (.type "BaseException")=some true):rM K C :=
 ⟨q1,q2,by unfold findObj;rw [q3,Option.bind_some,q4,Option.bind_some];simp [q5,q6],q7,q8,by rw [q3];rfl⟩
theorem A2.mk'(q1:typeIn K (.ref D)=some (.type "type"))(q2:clsIn K D=some cd)(q3:subIn K (.ref D) (.type "BaseException")=some true):A2 K D:=⟨q1,by rw [q2];rfl,q3⟩
theorem Rg{n:String}{b:Bool}(m:kitMeta n=true)(h:subIn K (.ref C) (.type n)=some b):kitOne K (.ref C) (.type n)=some b:=by
 unfold kitOne
 rw [if_neg (fun z=>by cases beq_iff_eq.mp z)]
 show (if kitMeta n=true then subIn K (.ref C) (.type n) else none)=_
 rw [if_pos m]
 exact h
theorem JQ(h1:kitOne K (.ref C) (.ref D1)=some false)(h2:kitOne K (.ref C) (.ref D2)=some false):kitAny K (.ref C) ([D1,D2].map Value.ref)=some false:=by
 show kitAny K (.ref C) [.ref D1,.ref D2]=some false
 unfold kitAny
 rw [h1]
 unfold kitAny
 rw [h2]
 rfl
theorem rN:kitMeta "ValueError"=true:=by decide +kernel
end
open PySem PySem.Spec PyProof.Rows
section
variable {X:Cx}
theorem iP{y:Str}{py Vv:Pos}{k:Nat}{tg iter elt:Expr}{ifs:List Expr}{scope:Scope}{pos:Pos}{N:List Str}{ix:List (Option Nat)}{wi:TI}{g:TG}{tt:TT}{te:TE}
  (hN:X.N.Nodup) (hk0:X.N[k]?=some y) (hy:Loc X.env.scope y) (hc:X.calm=true) (hi:PI X tg iter wi)
  (hg:∀ pins C s H fp,PG (bL X pins N scope C s H fp) tg g)
  (ht:∀ pins C s H fp,Td (bL X pins N scope C s H fp) ifs tt)
  (he:∀ pins C s H fp,PE (bL X pins N scope C s H fp) elt te)
  (hk:scope.kind=.function) (dJ:∀ y∈scope.names,y.2≠.cell) (iJ:∀ y∈scope.names,y.2=.local->scope.names.lookup y.1=some .local)
  (jt:(scope.names.all fun y=>!(y.2 == NameKind.free) || (X.env.cells.lookup y.1).isSome)=true) (Ar:jr X scope N ix)
  (hs:∀ x,foldedSetIterable iter X.env x=pure x:=by intro _;rfl)
  (hsw:swapsWith (.ListComp elt [⟨tg,iter,ifs,0⟩] scope pos) (some (.Name y py)) Vv.line X.env=pure true:=by rfl)
  (hf:X.fn y=true\/X.env.scope.names.lookup y=some .local:=by first|exact .inl rfl|exact .inr rfl|assumption) :
  PS X (.Assign [.Name y py] (.ListComp elt [⟨tg,iter,ifs,0⟩] scope pos) Vv) (HQ (Aq ix wi g tt te) (bu k)):=by
 intro pins s σ H D I h
 replace h:wi σ H fun J H1=>aV ix g tt te σ (fun x H1=>D.nx (σ.set k (some x)) H1) J H1:=h
 rw [exec_Assign_Name_used _ _ _ _ hsw]
 refine aac (wpAny_standAt (aac (aac (aaq (xx (use:=some (assign (.Name y py) X.env)) (Q0:=fun _ s'=>SP X pins D .next s') (ok:=fun Y=>Y.calm=true) (fun _ _ _ _ _=>hc) hi.c hg ht he hk dJ iJ jt Ar hs I h fun s3 s6 H3 H5 fp acc σ6 I3 f3 I6 q=>?_) (fun _ s' hq=>aap (aap hq)) fun _ _ e=>e))))
 obtain ⟨m6,YA,_⟩:=I6.loc
 have I6X:Inv X pins σ H5 s6:=I3.HN (ch:=fp) I6.os I6.base I6.bh I6.bare fun b hb=>by
  obtain ⟨f0,f1,Yv,Xd,f4,f5⟩:=f3 b hb
  exact⟨Xd,f1,f4,f5⟩
 have L7:X.env.locals≠s3.heap.objs.size:=fun z=>by
  obtain ⟨m,⟨o,_,_,ho,_⟩,_⟩:=I3.loc
  exact Nat.lt_irrefl _ (z ▸ aae ho)
 have Vw:∀ x c,X.env.cells.lookup x=some c->c≠s3.heap.objs.size:=fun x c e=>aa1 (by obtain ⟨v,z⟩:=I3.cell x c e;exact z.lt)
 refine wpAny_assign_Name (xj (u:=.ref acc) (v:=.ref acc) I6X hN hk0 hy rfl (fun s7 I7 ⟨a7,sb7,ha7⟩=>?_) hf)
 have na7:s3.heap.objs.size≠a7:=by
  rcases ha7 with z|z
  ·exact fun w=>L7 (z ▸ w.symm)
  ·exact fun w=>Vw _ _ z w.symm
 refine⟨m6,YA.sameBut sb7 na7,fun h' sb=>?_⟩
 refine⟨σ.set k (some (.ref acc)),H5,Inv.qp (ch:=[s3.heap.objs.size]) I7 (fun b hb=>?_) (fun b o _ _ nb e _=>(sb.2 b (fun z=>nb (by rw [z];exact aaw.mpr rfl))).trans e) (fun b o _ _ nb e _=>⟨o.slots,(sb.2 b (fun z=>nb (by rw [z];exact aaw.mpr rfl))).trans e⟩)
  (fun _ _ _ _ e=>e) (fun b o nb e=>⟨o,(sb.2 b (fun z=>nb (by rw [z];exact aaw.mpr rfl))).trans e⟩) (fun _ _ e=>e) (fun _ _ _ e=>e) (fun b ps e=>⟨#[],by simpa using e⟩) (fun m hm=>hm.sameBut sb L7) (I7.bh.letGo I6.free sb),q⟩
 have eb:b=s3.heap.objs.size:=aaw.mp hb
 subst eb
 refine⟨?_,Ne.symm L7,Vw,fun p hp=>aa1 (aae (I3.pin p hp).1)⟩
 cases q9:X.s₀.heap.get? s3.heap.objs.size with
 | none=>rfl
 | some o=>exact absurd (Nat.lt_of_lt_of_le (aae q9) I3.sz) (Nat.lt_irrefl _)
end
theorem rO:bootBuiltins "ValueError"=some (.type "ValueError"):=by decide +kernel
section
variable {K:Frag}{H:Hp}{Q:VK}{D:Ends}{σ:St}
theorem Vx(e:aC K H p xs)(fx:ip x=true)(fs:xs.all ip=true)(h:Q (.bl (LL x xs)) H):Xa K false x (.ref p) H Q:=⟨p,xs,rfl,.inr e,fx,fs,h⟩
theorem OO(e:aP K H p xs)(fx:ip x=true)(fs:xs.all ip=true)(h:Q (.bl (LL x xs)) H):Xa K false x (.ref p) H Q:=⟨p,xs,rfl,.inl e,fx,fs,h⟩
theorem join{t:TS}{u:St->Hp->Prop}(P:St->Hp->Prop)(h1:∀ nx:St->Hp->Prop,(∀ σ' H',P σ' H'->nx σ' H')->t { D with nx:=nx } σ H)(h2:∀ σ' H',P σ' H'->u σ' H'):t { D with nx:=u } σ H:=h1 u h2
theorem Vy{t:TE}(P:V->Hp->Prop)(h1:∀ Q':VK,(∀ v H',P v H'->Q' v H')->t σ H Q')(h2:∀ v H',P v H'->Q v H'):t σ H Q:=h1 Q h2
end
def Rh(K:Frag):List V->Hp->VK->Prop:=fun xs H Q=>∃ (a:Addr) (bs:List Bool),xs=[.ref a]/\aP K H a (bs.map V.bl)/\Q (.bl (bs.all id)) H
theorem C6(bs:List Bool):((List.range bs.length).all fun i=>(bs[i]?).getD true)=bs.all id:=by
 rw [Bool.eq_iff_iff,all_eq_true,all_eq_true]
 constructor
 ·intro h b hb
  obtain ⟨i,hi,rfl⟩:=aa6 hb
  have:=h i (aaM.mpr hi)
  simpa [aat hi] using this
 ·intro h i hi
  have yB:=aaM.mp hi
  simpa [aat yB] using h _ (aa5 yB)
section
variable {X:Cx}
theorem Ga(hc:X.calm=true):bM X (.builtin "all") (Rh X.K):=by
 intro pins s σ H xs us Q I r h
 obtain ⟨a,bs,rfl,hs,q⟩:=h
 obtain ⟨u,rfl,ru⟩:=vals1 r
 cases ru
 obtain ⟨its,rv,p,_⟩:=I.list hs
 have hl:s.heap.IsList a its.toArray:=by
  obtain ⟨o,n,h1,h2,h3⟩:=p
  exact⟨o,h1,h2,n,h3.2⟩
 have fk:a<s.heap.objs.size:=by obtain ⟨_,e,_⟩:=hl;exact aae e
 have hh:X.A.handled=none:=I.ok.hd hc
 refine call_all_walk (wpAny_pyIter_list hl ?_)
 refine⟨s.heap.objs.size,[s.heap.objs.size,a],[s.heap.objs.size],its.toArray.size,_,_,fun i=>(bs[i]?).getD true,rfl,Walks.list (A:=X.A.in1) hh _ a (aa1 fk) its.toArray,
  ⟨⟨_,aaf _ rfl,rfl,rfl⟩,hl.push _⟩,fun i v s' Q' E' hP hQ=>?_,fun h' tk hk=>?_⟩
 ·have Vz:its[i]?=some v:=by simpa using hP
  have hi:i<its.length:=(aad.mp Vz).1
  have hb:i<bs.length:=by have:=rv.length;simp at this;lia
  obtain ⟨u1,e1,r1⟩:=rv.get (i:=i) (x:=.bl bs[i]) (by simp [hb])
  rw [Vz] at e1
  cases e1
  cases r1
  simp only [aat hb,Option.getD_some] at hQ
  exact wpAny_truthy_bool hQ
 ·have e:((List.range its.toArray.size).all fun i=>(bs[i]?).getD true)=bs.all id:=by
   have:=rv.length
   simp at this
   rw [aaP,<- this];exact C6 bs
  rw [e]
  exact⟨.bl (bs.all id),H,I.kept (t':=tk) (fun b x e=>hk b x (fun hm=>by rw [aaw.mp hm] at e;exact Nat.lt_irrefl _ (aae e)) (aab _ e)),rfl,q⟩
theorem mf(K:Frag)(hK:X.K=K)(hc:X.calm=true):bM X (.builtin "all") (Rh K):=hK ▸ Ga hc
def JR(K:Frag):R2:=fun x y H Q=>∃ a b xs ys,x=.ref a/\y=.ref b/\aC K H a xs/\aC K H b ys/\xs.length+ys.length<=sizeLine /\
 (xs=[]->Q (.ref b) H)/\(xs≠[]->ys=[]->Q (.ref a) H)/\(xs≠[]->ys≠[]->∀ p,H p=none->Q (.ref p) (upd H p (.tup (xs++ys))))
theorem M3:gq X (binaryOp .Add) (JR X.K):=by
 intro pins s σ H x y v u Q I rx ry h
 obtain ⟨a,b,xs,ys,rfl,rfl,ha,hb,hz,q0,q1,q2⟩:=h
 by_cases hx:xs=[]
 ·subst hx
  cases rx
  cases ry
  obtain ⟨its,r1,p1,_⟩:=I.tuple ha
  obtain ⟨Im,r2,p2,_⟩:=I.tuple hb
  cases r1
  obtain ⟨⟨cls,dd,data,sl⟩,ho,hc,n,hd⟩:=p1
  obtain ⟨⟨Yj,W8,data2,W9⟩,wj,LK,n2,CD⟩:=p2
  simp only at hc hd LK CD
  subst hc hd LK CD
  exact concat_meets ⟨_,ho,rfl⟩ ⟨_,wj,rfl⟩ noFill_tuple_add seq_tuple_add PySem.F.slot_tuple_add PySem.F.entry_tuple_add (PySem.F.args_tuple_add_2 _ _)
   (tuple_addW0 a b #[] Im.toArray n n2 dd W8 sl W9 rfl) ⟨ho,wj,⟨.ref b,H,I,rfl,q0 rfl⟩⟩
 ·exact Ex pins s σ H _ _ v u Q I rx ry ⟨a,b,xs,ys,rfl,rfl,ha,hb,hx,hz,q1 hx,q2 hx⟩
theorem JS(K:Frag)(hK:X.K=K):gq X (binaryOp .Add) (JR K):=hK ▸ M3
end
section
variable {K:Frag}{H:Hp}{Q:VK}{σ:St}
theorem tX{a:Addr}{bs:List Bool}(e:aP K H a (bs.map V.bl))(h:Q (.bl (bs.all id)) H):Rh K [.ref a] H Q:=⟨a,bs,rfl,e,h⟩
theorem Ri(e1:aC K H a xs)(e2:aC K H b ys)(n:xs.length+ys.length<=1000)(h:∀ p H2,aj H H2->aC K H2 p (xs++ys)->Q (.ref p) H2):JR K (.ref a) (.ref b) H Q :=
 ⟨a,b,xs,ys,rfl,rfl,e1,e2,aag n aa8,fun z=>by subst z;exact h b H (aj.refl _) e2,fun _ z=>by subst z;exact h a H (aj.refl _) (by rw [append_nil];exact e1),
  fun _ _ p hp=>h p _ (aj.aZ hp) (aC.of aw)⟩
theorem Rj{n:String}{b:Bool}(k:PySem.W.kitOne K (.type "NoneType") (.type n)=some b)(h:Q (.bl b) H):gy K [.cJ,.ty n] H Q:=⟨_,n,_,b,rfl,.inl .cJ,k,h⟩
theorem Rk{n:String}{b:Bool}(k:PySem.W.kitOne K (.type "str") (.type n)=some b)(h:Q (.bl b) H):gy K [.str x,.ty n] H Q:=⟨_,n,_,b,rfl,.inl (.str _),k,h⟩
theorem Rl{t:Ma}(h:to σ H fun o H1=>ti σ H1 fun i H2=>t o i v H2 fun H3=>R σ H3):T7 to ti t v σ H R:=h
theorem Rm{k:Int}{j:Nat}(e:H p=some (.lst xs))(hj:Io xs.length k=some j)(h:R (upd H p (.lst (xs.set j v)))):Om (.ref p) (.int k) v H R:=⟨p,xs,k,j,rfl,rfl,e,hj,h⟩
theorem C7{a:Addr}{xs:List V}{ix:List (Option Nat)}{te:TE}(F:V->V)(fr:St)(gn:pick ix σ=none::fr)(ha:aC K H a xs)(hn:xs.length<=1000)
  (step:∀ x H' (Qc:VK),x∈xs->aj H H'->(∀ H5,aj H' H5->Qc (F x) H5)->te (some x::fr) H' Qc)
  (hQ:∀ l H',H l=none->aj H H'->H' l=some (.lst (xs.map F))->Q (.ref l) H'):aV ix (bu 0) (fun _ H Q=>Q true H) te σ Q (HS K a) H:=by
 refine jz fr xs.length (fun i=>F (xs.getD i .cJ)) gn aaa (fun H' s=>⟨_,s.at ha,by simp⟩) (fun i H' hi s=>⟨_,xs[i],s.at ha,aat hi⟩) (fun i x H' H2 Qc hi hs hy kc=>?_) fun l H' hl hs fE=>hQ l H' hl hs ?_
 ·obtain ⟨rfl,e1⟩:=hy
  have e2:=e1 _ (hs.at ha)
  have e3:xs.getD i .cJ=x:=by rw [List.getD,e2];rfl
  rw [e3] at kc
  exact step _ _ Qc (aay e2) hs kc
 ·rw [fE]
  congr 2
  apply ext_getElem (by simp)
  intro i h1 h2
  simp at h1 h2
  simp [List.getD,h2]
end
section
variable {X:Cx}{pins:List (Addr×Obj)}{σ:St}{H:Hp}{s:Shared}
theorem Inv.wrote{t':Nat}(I:Inv X (pins++[(a,o)]) σ H s)(h0:X.s₀.heap.get? a=none)(hc:∀ x c,X.env.cells.lookup x=some c->c≠a)(hp:∀ p∈X.pn++pins,p.1≠a)(sb:Heap.SameBut a s.heap h')(e:h'.get? a=some o')(d:∀ v,o'.data≠.cell v):Inv X (pins++[(a,o')]) σ H { s with heap:=h',toks:=t' }:=by
 obtain ⟨g1,g2,g3,g4,g5⟩:=I.pin (a,o) (aau _ (aau _ (aaw.mpr rfl)))
 have I1:Inv X pins σ H s:=I.fB
 have nm:∀ {b:Addr},b∉[a]->b≠a:=fun nb z=>nb (aaw.mpr z)
 have I2:Inv X pins σ H { s with heap:=h',toks:=t' }:=Inv.qp (ch:=[a]) I1 (fun b hb=>by
   have eb:b=a:=aaw.mp hb
   subst eb
   exact⟨h0,g3,hc,hp⟩) (fun b ob _ _ nb q _=>(sb.2 b (nm nb)).trans q) (fun b ob _ _ nb q _=>⟨ob.slots,(sb.2 b (nm nb)).trans q⟩)
   (fun _ _ _ _ q=>q) (fun b ob nb q=>⟨ob,(sb.2 b (nm nb)).trans q⟩) (fun _ _ q=>q) (fun _ _ _ q=>q) (fun b ps q=>⟨#[],by simpa using q⟩) (fun m hm=>hm.sameBut sb (Ne.symm g3)) (I1.bh.letGo g2 sb)
 exact I2.iF fun p hp=>(aax.mp hp).elim (fun z=>I2.pin p (aau _ z)) fun z=>by
  rw [aaw.mp z]
  exact⟨e,g2,g3,g4,d⟩
end
inductive PV:List (Int×V)->List (Int×Value)->Prop where
 | nil:PV [] []
 | cons {k:Int} {x:V} {u:Value} {qs ps} (r:RelV x u) (t:PV qs ps):PV ((k,x)::qs) ((k,u)::ps)
theorem PV.zip:∀ {kz:List Int} {xs:List V} {vs:List Value},Vals xs vs->PV (kz.zip xs) (kz.zip vs)
 | [],_,_,_=>.nil
 | _::_,_,_,.nil=>.nil
 | _::_,_,_,.cons r t=>.cons r (PV.zip t)
theorem PV.perm(h:ps'.Perm ps):∀ {qs:List (Int×V)},PV qs ps->∃ LN:List (Int×V),LN.Perm qs/\PV LN ps':=by
 induction h with
 | nil=>intro qs h;exact⟨qs,.refl _,h⟩
 | cons x _ ih =>
  intro qs h
  cases h with
  | cons r t =>
   obtain ⟨LN,p,z⟩:=ih t
   exact⟨_::LN,p.cons _,.cons r z⟩
 | swap x y l =>
  intro qs h
  cases h with
  | cons r t =>
   cases t with
   | cons r2 t2=>exact⟨_::_::_,.swap _ _ _,.cons r2 (.cons r t2)⟩
 | trans _ _ YK YL =>
  intro qs h
  obtain ⟨q1,p1,z1⟩:=YL h
  obtain ⟨q2,p2,z2⟩:=YK z1
  exact⟨q2,p2.trans p1,z2⟩
theorem PV.vals:∀ {qs:List (Int×V)} {ps:List (Int×Value)},PV qs ps->Vals (qs.map Prod.snd) (ps.map Prod.snd)/\qs.map Prod.fst=ps.map Prod.fst
 | _,_,.nil=>⟨.nil,rfl⟩
 | _,_,.cons r t=>⟨.cons r t.vals.1,by rw [map_cons,map_cons,t.vals.2]⟩
section
variable {X:Cx}{pins:List (Addr×Obj)}{σ:St}{H:Hp}{s:Shared}
theorem EU(I:Inv X (pins++[p]) σ H s):s.heap.get? p.1=some p.2:=(I.pin p (aau _ (aau _ (aaw.mpr rfl)))).1
theorem Zc{kA:Array Value}{kz:List Int}{j:Nat}{n:Int}{t:Tok}(hk:IntsAre kA.toList (kz.take j))(hn:kz[j]?=some n):IntsAre (kA.push (.int n t)).toList (kz.take (j+1)):=by
 rw [Array.toList_push,take_add_one,hn]
 exact ksk_snoc hk
end
theorem M4{h:Heap}{a:Addr}{m m':Str->Option Value}(x:h.Ns a m)(y:h.Ns a m'):m=m':=by
 obtain ⟨o1,es1,ep1,Tg,Th,_,Y8⟩:=x
 obtain ⟨o2,es2,ep2,wj,CD,_,Y9⟩:=y
 rw [Tg] at wj;cases wj;rw [Th] at CD;cases CD
 funext z
 rw [<- Y8,<- Y9]
def dZ(b:Bool)(kz:List Int)(xs ys:List V):Prop:=∃ qs:List (Int×V),qs.Perm (kz.zip xs)/\ys=qs.map Prod.snd/\qs.Pairwise (fun p q=>if b then q.1<=p.1 else p.1<=q.1)
theorem A4{b:Bool}:∀ {qs:List (Int×V)} {ps:List (Int×Value)},PV qs ps->ps.Pairwise (fun p q=>if b then q.1<=p.1 else p.1<=q.1)->qs.Pairwise (fun p q=>if b then q.1<=p.1 else p.1<=q.1)
 | _,_,.nil,_=>.nil
 | _,_,.cons (k:=k) (qs:=qs) (ps:=ps) r t,h=>by
  obtain ⟨h1,h2⟩:=aa3.mp h
  refine aa3.mpr ⟨fun q hq=>?_,A4 t h2⟩
  have hm:q.1∈ps.map Prod.fst:=by rw [<- t.vals.2];exact aaD.mpr ⟨q,hq,rfl⟩
  obtain ⟨p,hp,e⟩:=aaD.mp hm
  have:=h1 p hp
  rw [e] at this
  exact this
theorem Gb{b:Bool}(hv:Vals xs vs)(h:KskOut b kz vs out):∃ ys,Vals ys out/\dZ b kz xs ys:=by
 obtain ⟨ps,hp,rfl,hw⟩:=h
 obtain ⟨qs,h1,h2⟩:=PV.perm hp (PV.zip hv)
 exact⟨qs.map Prod.snd,h2.vals.1,qs,h1,rfl,A4 h2 hw⟩
theorem dZ.length{b:Bool}(h:dZ b kz xs ys)(hl:kz.length=xs.length):ys.length=xs.length:=by
 obtain ⟨qs,p,rfl,_⟩:=h
 rw [aaz,p.length_eq,List.length_zip,hl,Nat.min_self]
section
variable {X:Cx}{pins:List (Addr×Obj)}{σ:St}{H:Hp}{s:Shared}
def others(h:Heap)(L k a:Addr):List (Addr×Obj):=(List.range h.objs.size).filterMap fun b=>if b=L\/b=k\/b=a then none else (h.get? b).map fun o=>(b,o)
theorem C8(e:h.get? b=some o)(n1:b≠L)(n2:b≠k)(n3:b≠a):(b,o)∈others h L k a :=
 mem_filterMap.mpr ⟨b,aaM.mpr (aae e),by rw [if_neg (by simp [n1,n2,n3]),e];rfl⟩
theorem kJ(hp:p∈others h L k a):h.get? p.1=some p.2/\p.1≠L/\p.1≠k/\p.1≠a:=by
 obtain ⟨b,_,e⟩:=mem_filterMap.mp hp
 by_cases hb:b=L\/b=k\/b=a
 ·rw [if_pos hb] at e;cases e
 ·rw [if_neg hb] at e
  cases q:h.get? b with
  | none=>rw [q] at e;cases e
  | some o =>
   rw [q] at e
   cases e
   exact⟨q,fun z=>hb (.inl z),fun z=>hb (.inr (.inl z)),fun z=>hb (.inr (.inr z))⟩
theorem JT{a kS:Addr}{e1 e:Nat}{kA:Array Value}{b:Bool}{vs:List Value}{xs:List V}{kz:List Int}{P:PySem.Fin->Shared->Prop}{E:Value->Shared->Prop}
  (I:Inv X ((pins++[(a,seqObj "list" #[] e1)])++[(kS,seqObj "list" kA e)]) σ H s)
  (ha:X.s₀.heap.get? a=none/\(∀ x c,X.env.cells.lookup x=some c->c≠a)/\∀ p∈X.pn++pins,p.1≠a)
  (Xs:X.s₀.heap.get? kS=none/\(∀ x c,X.env.cells.lookup x=some c->c≠kS)/\∀ p∈X.pn++(pins++[(a,seqObj "list" #[] e1)]),p.1≠kS)
  (hk:IntsAre kA.toList kz) (hv:Vals xs vs) (hlen:kz.length=vs.length) (LO:vs.length<64)
  (hP:∀ h' tk ys,Inv X pins σ (upd H a (.lst ys)) { s with heap:=h',toks:=tk }->dZ b kz xs ys->P (.done (.ret .none)) { s with heap:=h',toks:=tk }) :
  wpAny (model X.prog X.w) X.A.in1.in1 (ksk_end a b vs.toArray e1 (.ref kS) kA) P E s:=by
 obtain ⟨k1,k2,k3,k4,_⟩:=I.pin (kS,seqObj "list" kA e) (aau _ (aau _ (aaw.mpr rfl)))
 obtain ⟨a1,a2,a3,a4,_⟩:=I.pin (a,seqObj "list" #[] e1) (aau _ (aav _ (aau _ (aaw.mpr rfl))))
 have F0:kS≠a:=fun z=>Xs.2.2 (a,seqObj "list" #[] e1) (aau _ (aau _ (aaw.mpr rfl))) z.symm
 have I1:Inv X pins σ H s:=I.fB.fB
 obtain ⟨m,hn,_⟩:=id I1.loc
 have em:∀ b:Addr,({}:Heap).get? b=none:=fun b=>Heap.get?_none_of_le (aa0 _)
 refine ksk_end_ (h₀:=({}:Heap)) (L:=X.env.locals) (m:=m) (news:=others s.heap X.env.locals kS a) (e:=e) ⟨hn,fun b o q=>(by rw [em b] at q;cases q),aa0 _⟩ (fun p hp=>?_) F0 (fun p hp=>(kJ hp).2.2.1) (fun p hp=>(kJ hp).2.2.2) hk hlen LO (fun h' tk out c F' N' ko=>?_)
 ·rcases aax.mp hp with z|z
  ·exact⟨(kJ z).1,(kJ z).2.1,em _⟩
  ·rcases aaC.mp z with rfl|z
   ·exact⟨k1,k3,em _⟩
   ·rw [aaw.mp z]
    exact⟨a1,a3,em _⟩
 ·obtain ⟨ys,ry,so⟩:=Gb hv ko
  have kp:∀ b o,s.heap.get? b=some o->b≠X.env.locals->b≠kS->b≠a->h'.get? b=some o:=fun b o q n1 n2 n3=>(N' (b,o) (.tail _ (C8 q n1 n2 n3))).1
  have na:h'.get? a=some (seqObj "list" out c):=(N' (a,seqObj "list" out c) (.head _)).1
  have nm:∀ {b:Addr},b∉[a,kS]->b≠a/\b≠kS:=fun nb=>⟨fun z=>nb (by rw [z];exact .head _),fun z=>nb (by rw [z];exact .tail _ (.head _))⟩
  refine hP h' tk ys (Inv.qp (ch:=[a,kS]) I1 (fun b hb=>?_) (fun b o nL _ nb q _=>kp b o q nL (nm nb).2 (nm nb).1) (fun b o nL _ nb q _=>⟨o.slots,kp b o q nL (nm nb).2 (nm nb).1⟩)
   (fun b o nb _ q=>by rw [ay (nm nb).1];exact q) (fun b o nb q=>?_) (fun b ys q=>by rw [ay (aJ q a2)];exact q) (fun b o u q=>by rw [ay (aJ q a2)];exact q) (fun b ps q=>⟨#[],by rw [ay (aJ q a2)];simpa using q⟩)
   (fun m0 h0=>M4 hn h0 ▸ F'.ns) (fun b o q=>?_)) so
  ·rcases aaC.mp hb with rfl|hb
   ·exact⟨ha.1,a3,ha.2.1,ha.2.2⟩
   ·have eb:b=kS:=aaw.mp hb
    subst eb
    exact⟨Xs.1,k3,Xs.2.1,fun p hp=>Xs.2.2 p ((aax.mp hp).elim (fun z=>aav _ z) fun z=>aau _ (aav _ z))⟩
  ·by_cases nL:b=X.env.locals
   ·subst nL
    obtain ⟨oL,_,_,W5,_⟩:=F'.ns
    exact⟨oL,W5⟩
   ·exact⟨o,kp b o q nL (nm nb).2 (nm nb).1⟩
  ·by_cases hb:b=a
   ·subst hb
    rw [aw] at q
    cases q
    refine⟨?_,out.toList,c,ry,by simpa using na⟩
    have:=so.length (hlen.trans hv.length.symm)
    rw [this,hv.length,sizeLine_eq]
    lia
   ·rw [ay hb] at q
    have tr:∀ d u,H d=some u->d≠X.env.locals/\d≠kS/\d≠a:=fun d u z=>⟨fun w=>(by rw [w,I1.free] at z;cases z),fun w=>(by rw [w,k2] at z;cases z),fun w=>(by rw [w,a2] at z;cases z)⟩
    refine (I1.bh b o q).rB (fun d u hd z=>?_) (fun d z=>by rw [ay (aJ z a2)];exact z) fun d xs z=>by rw [ay (aJ z a2)];exact z
    have td:d≠X.env.locals/\d≠kS/\d≠a:=by
     rcases hd with rfl|hd
     ·exact tr _ _ q
     ·exact tr _ _ hd
    exact kp d u z td.1 td.2.1 td.2.2
end
mutual
inductive dP(K:Frag)(H:Hp):V->PyData->Prop where
 | cJ:dP K H .cJ .none
 | bl (b:Bool):dP K H (.bl b) (.bool b)
 | int (i:Int):dP K H (.int i) (.int i)
 | str (x:Str):dP K H (.str x) (.str x)
 | tup {a:Addr} {xs:List V} {ds:List PyData} (h:aC K H a xs) (t:d5 K H xs ds):dP K H (.ref a) (.tuple ds)
 | lst {a:Addr} {xs:List V} {ds:List PyData} (h:aP K H a xs) (t:d5 K H xs ds):dP K H (.ref a) (.list ds)
inductive d5(K:Frag)(H:Hp):List V->List PyData->Prop where
 | nil:d5 K H [] []
 | cons {x:V} {d:PyData} {xs:List V} {ds:List PyData} (h:dP K H x d) (t:d5 K H xs ds):d5 K H (x::xs) (d::ds)
end
section
variable {X:Cx}{pins:List (Addr×Obj)}{σ:St}{H:Hp}{s:Shared}
mutual
theorem dP.reads(I:Inv X pins σ H s):∀ {v:V} {d:PyData} {u:Value},dP X.K H v d->RelV v u->∃ as,Reads s.heap u d as
 | _,_,u,.cJ,r=>by cases (show u=Value.none from r);exact⟨_,.none⟩
 | _,_,u,.bl b,r=>by cases (show u=Value.bool b from r);exact⟨_,.bool b⟩
 | _,_,u,.int i,r=>by
  obtain ⟨t,q⟩:=(show ∃ t,u=Value.int i t from r)
  cases q
  exact⟨_,.int i t⟩
 | _,_,u,.str x,r=>by
  obtain ⟨t,q⟩:=(show ∃ t,u=Value.str x t from r)
  cases q
  exact⟨_,.str x t⟩
 | _,_,u,.tup (a:=a) h t,r=>by
  cases (show u=Value.ref a from r)
  obtain ⟨its,rv,p,_⟩:=I.tuple h
  obtain ⟨o,h1,h2,n,h3⟩:=p
  obtain ⟨as,ra⟩:=d5.reads I t rv
  exact⟨_,reads_tuple_at h1 h2 h3 (by simpa using ra)⟩
 | _,_,u,.lst (a:=a) h t,r=>by
  cases (show u=Value.ref a from r)
  obtain ⟨its,rv,p,_⟩:=I.list h
  obtain ⟨o,n,h1,h2,h3⟩:=p
  obtain ⟨as,ra⟩:=d5.reads I t rv
  exact⟨_,reads_list_at h1 h2 h3.2 (by simpa using ra)⟩
theorem d5.reads(I:Inv X pins σ H s):∀ {vs:List V} {ds:List PyData} {us:List Value},d5 X.K H vs ds->Vals vs us->∃ as,ReadsAll s.heap us ds as
 | _,_,_,.nil,.nil=>⟨_,.nil⟩
 | _,_,_,.cons h t,.cons r rs=>by
  obtain ⟨as,ra⟩:=dP.reads I h r
  obtain ⟨bs,rb⟩:=d5.reads I t rs
  exact⟨_,.cons ra rb⟩
end
def Gd(K:Frag)(neg:Bool):R2:=fun x y H Q=>∃ d e,dP K H x d/\dP K H y e/\SeqAt.shaped d=true/\SeqAt.shaped e=true/\Q (.bl (if neg then !PyData.eqv d e else PyData.eqv d e)) H
theorem Rn(hu:X.A.units+64<cLine):gq X (compareOp .Eq) (Gd X.K false):=by
 intro pins s σ H x y v u Q I rx ry h
 obtain ⟨d,e,hd,he,sd,se,q⟩:=h
 obtain ⟨as,ra⟩:=hd.reads I rx
 obtain ⟨bs,rb⟩:=he.reads I ry
 exact eq_dataH ra rb sd se hu ⟨.bl (PyData.eqv d e),H,I,rfl,q⟩
theorem Ro(hu:X.A.units+64<cLine):gq X (compareOp .NotEq) (Gd X.K true):=by
 intro pins s σ H x y v u Q I rx ry h
 obtain ⟨d,e,hd,he,sd,se,q⟩:=h
 obtain ⟨as,ra⟩:=hd.reads I rx
 obtain ⟨bs,rb⟩:=he.reads I ry
 exact ne_dataH ra rb sd se hu ⟨.bl (!PyData.eqv d e),H,I,rfl,q⟩
variable {K:Frag}
theorem kK(K:Frag)(hK:X.K=K)(hu:X.A.units+64<cLine):gq X (compareOp .Eq) (Gd K false):=hK ▸ Rn hu
theorem EV(K:Frag)(hK:X.K=K)(hu:X.A.units+64<cLine):gq X (compareOp .NotEq) (Gd K true):=hK ▸ Ro hu
end
section
variable {K:Frag}{H:Hp}{Q:VK}
theorem xN(hd:dP K H x d)(he:dP K H y e)(sd:SeqAt.shaped d=true)(se:SeqAt.shaped e=true)(h:Q (.bl (PyData.eqv d e)) H):Gd K false x y H Q:=⟨d,e,hd,he,sd,se,h⟩
theorem OP(hd:dP K H x d)(he:dP K H y e)(sd:SeqAt.shaped d=true)(se:SeqAt.shaped e=true)(h:Q (.bl (!PyData.eqv d e)) H):Gd K true x y H Q:=⟨d,e,hd,he,sd,se,h⟩
def Rows(K:Frag)(H:Hp)(xs:List V)(rs:List (List Int)):Prop:=d5 K H xs (rs.map fun r=>.tuple (r.map PyData.int))
theorem d5.ints:∀ (r:List Int),d5 K H (r.map V.int) (r.map PyData.int)
 | []=>.nil
 | i::r=>.cons (.int i) (d5.ints r)
theorem dP.row{a:Addr}{r:List Int}(h:aC K H a (r.map V.int)):dP K H (.ref a) (.tuple (r.map PyData.int)):=.tup h (d5.ints r)
end
end L2
namespace L2
open PySem PySem.Spec PyProof.Rows
section
variable {K:Frag}{g:TG}{D:Ends}{σ:St}{H:Hp}
theorem A5(n:Nat)(Pv:Nat->St->Hp->Prop)(h0:Pv 0 σ H)(FR:∀ i σ H2,i<n->Pv i σ H2->J.go i H2)(ir:∀ σ H2,Pv n σ H2->J.stop n H2)(hs:∀ i x σ H2 H3,i<n->Pv i σ H2->J.Eg i H2 x H3->g x σ H3 fun σ2 H4=>tb { D with nx:=Pv (i+1),ct:=Pv (i+1),bk:=D.nx } σ2 H4)(hd:∀ σ H2,Pv n σ H2->D.nx σ H2):dA g tb D J σ H:=by
 refine⟨fun i m σ2 H2=>m=n - i/\i<=n/\Pv i σ2 H2,⟨n,by simp,aa0 _,h0⟩,?_⟩
 rintro i m σ2 H2 ⟨rfl,hi,p⟩
 by_cases fk:i<n
 ·exact .inr ⟨FR i σ2 H2 fk p,Pv (i+1),fun σ' H' p'=>⟨n - (i+1),aaa,rfl,fk,p'⟩,fun x H' y=>hs i x σ2 H2 H' fk p y⟩
 ·have e:i=n:=by lia
  subst e
  exact .inl ⟨ir σ2 H2 p,hd σ2 H2 p⟩
theorem JU{lo:Int}{n:Nat}(Pv:Nat->St->Hp->Prop)(h0:Pv 0 σ H)(hs:∀ i σ H2,i<n->Pv i σ H2->g (.int (lo+i)) σ H2 fun σ2 H4=>tb { D with nx:=Pv (i+1),ct:=Pv (i+1),bk:=D.nx } σ2 H4)(hd:∀ σ H2,Pv n σ H2->D.nx σ H2):dA g tb D (Fw lo n) σ H:=by
 refine A5 n Pv h0 (fun i σ H2 hi _=>hi) (fun σ H2 _=>aah _) (fun i x σ H2 H3 hi p y=>?_) hd
 obtain ⟨rfl,rfl⟩:=y
 exact hs i σ _ hi p
theorem jF(Pv:Nat->St->Hp->Prop)(h0:Pv 0 σ H)(ha:∀ i σ H2,Pv i σ H2->aP K H2 a xs)(hs:∀ i x σ H2,xs[i]?=some x->Pv i σ H2->g x σ H2 fun σ2 H4=>tb { D with nx:=Pv (i+1),ct:=Pv (i+1),bk:=D.nx } σ2 H4)(hd:∀ σ H2,Pv xs.length σ H2->D.nx σ H2):dA g tb D (LJ K a) σ H:=by
 refine A5 xs.length Pv h0 (fun i σ H2 hi p=>⟨xs,xs[i],ha i σ H2 p,aat hi⟩) (fun σ H2 p=>⟨xs,ha _ σ H2 p,aah _⟩) (fun i x σ H2 H3 hi p y=>?_) hd
 obtain ⟨rfl,e⟩:=y
 exact hs i x σ _ (e xs (ha i σ _ p)) p
end
def Rp(K:Frag):List V->Hp->VK->Prop:=fun xs H Q=>∃ (a:Addr) (ns:List Int),xs=[.ref a]/\aP K H a (ns.map V.int)/\Q (.int ns.sum) H
def JV(K:Frag):List V->Hp->VK->Prop:=fun xs H Q=>∃ (a:Addr) (ns:List Int),xs=[.ref a]/\aP K H a (ns.map V.int)/\ns≠[]/\∀ m,m∈ns->(∀ x∈ns,x<=m)->Q (.int m) H
def JW(i j:Int):Prop:=j≠0/\j.natAbs.log2<9000
section
variable {X:Cx}
theorem Ge:gq X (binaryOp .FloorDiv) (rI JW fun i j=>.int (i.fdiv j)):=PB fun _ _ _ _ _ _ _ hc q=>floordiv_int hc.1 q (.inl (PyProof.noPylong_of_log2 hc.2))
theorem Gf(hc:X.calm=true):bM X (.builtin "sum") (Rp X.K):=by
 intro pins s σ H xs us Q I r h
 obtain ⟨a,ns,rfl,hs,q⟩:=h
 obtain ⟨u,rfl,ru⟩:=vals1 r
 cases ru
 obtain ⟨its,rv,p,_⟩:=I.list hs
 have hl:s.heap.IsList a its.toArray:=by
  obtain ⟨o,n,h1,h2,h3⟩:=p
  exact⟨o,h1,h2,n,h3.2⟩
 have hh:X.A.handled=none:=I.ok.hd hc
 have hi:IntsAre its ns:=intsAre_of rv
 obtain ⟨zs,hx⟩:=hi.allInts.items
 have hn:numsOf its.toArray.toList=ns:=by rw [show its.toArray.toList=its from rfl,hi.numsOf]
 rw [hx] at hl hn
 rw [nums_intItems] at hn
 refine sum_intListG hh hl fun h' tk t' hk=>?_
 rw [preSum_eq,aaU (by simp),hn]
 exact⟨.int ns.sum,H,I.kept (t':=tk) hk,⟨t',rfl⟩,q⟩
theorem Gg(hc:X.calm=true):bM X (.builtin "max") (JV X.K):=by
 intro pins s σ H xs us Q I r h
 obtain ⟨a,ns,rfl,hs,rK,q⟩:=h
 obtain ⟨u,rfl,ru⟩:=vals1 r
 cases ru
 obtain ⟨its,rv,p,_⟩:=I.list hs
 have hl:s.heap.IsList a its.toArray:=by
  obtain ⟨o,n,h1,h2,h3⟩:=p
  exact⟨o,h1,h2,n,h3.2⟩
 have hh:X.A.handled=none:=I.ok.hd hc
 have hi:IntsAre its ns:=intsAre_of rv
 obtain ⟨zs,hx⟩:=hi.allInts.items
 have hn:numsOf its.toArray.toList=ns:=by rw [show its.toArray.toList=its from rfl,hi.numsOf]
 rw [hx] at hl hn
 rw [nums_intItems] at hn
 have lI:0<zs.size:=by
  rcases eq_zero_or_pos zs.size with z|z
  ·exfalso;apply rK;rw [<- hn];apply List.eq_nil_of_length_eq_zero;rw [aaz,Array.length_toList,z]
  ·exact z
 refine max_intList hh hl lI fun v h' tk hv hk=>?_
 obtain ⟨t,rfl⟩:=intItems_at hv
 obtain ⟨h1,h2⟩:=argBest_gt (numAt zs) (zs.size - 1)
 refine⟨.int _,H,I.kept (t':=tk) hk,⟨t,rfl⟩,q _ ?_ fun b hb=>?_⟩
 ·rw [<- hn,numAt_eq];exact getD_mem (by rw [aaz,Array.length_toList];lia)
 ·rw [<- hn] at hb
  obtain ⟨j,hj,rfl⟩:=mem_getD hb
  rw [aaz,Array.length_toList] at hj
  rw [<- numAt_eq];exact h2 j aaa
theorem JX(K:Frag)(hK:X.K=K)(hc:X.calm=true):bM X (.builtin "sum") (Rp K):=hK ▸ Gf hc
theorem M5(K:Frag)(hK:X.K=K)(hc:X.calm=true):bM X (.builtin "max") (JV K):=hK ▸ Gg hc
end
section
variable {K:Frag}{H:Hp}{Q:VK}{σ:St}{ix:List (Option Nat)}
theorem OQ{a:Addr}{ns:List Int}(e:aP K H a (ns.map V.int))(h:Q (.int ns.sum) H):Rp K [.ref a] H Q:=⟨a,ns,rfl,e,h⟩
theorem Rq(e:aP K H a (ns.map V.int))(n:ns≠[])(h:∀ m,m∈ns->(∀ x∈ns,x<=m)->Q (.int m) H):JV K [.ref a] H Q:=⟨a,ns,rfl,e,n,h⟩
theorem M6{k1 k2:Bool}(gn:pick ix σ=[none,none])(ha:Sq k1 K H a (r.map V.int))(hb:Sq k2 K H b (q.map V.int))(hlen:r.length=q.length)(hn:r.length<=1000)(hm:∀ i,i<r.length->c7 (r.getD i 0) (q.getD i 0))(hQ:∀ l H',H l=none->aj H H'->H' l=some (.lst ((List.zipWith (·*·) r q).map V.int))->Q (.ref l) H'):
  aV ix (wd K 2 (eS (bu 0) (eS (bu 1) yd))) (fun _ H Q=>Q true H) (HW (rI c7 fun i j=>.int (i*j)) (sV 0) (sV 1)) σ Q (Mx K k1 k2 a b) H:=by
 refine nA (k1:=k1) (k2:=k2) [] (fun i=>.int (r.getD i 0*q.getD i 0)) gn ha hb (by simpa using hlen) (by rw [aaz];lia) (fun i x y H' Qc ex ey hs kc=>?_) fun l H' hl hs fE=>hQ l H' hl hs ?_
 ·obtain ⟨rfl,hi⟩:=dW (r:=r) ex
  obtain ⟨rfl,_⟩:=dW (r:=q) ey
  exact⟨_,rfl,_,rfl,_,_,rfl,rfl,hm i hi,kc _ (aj.refl _)⟩
 ·rw [fE]
  congr 2
  apply ext_getElem (by simp [hlen])
  intro i h1 h2
  have h3:i<r.length:=by simpa using h1
  have h4:i<q.length:=by lia
  simp [List.getD,h3,h4]
end
end L2
namespace L2
open PySem
structure En(k:Bool)(n a:Nat)(i:Nat)(h:Heap):Prop where
 ob:∃ last:Value,IsEnum h (n+1) n i last
 src:ju k h n a i
section
variable {prog:Program}{w:World}{A:Around}{E:Value->Shared->Prop}{s:Shared}
theorem M7{k:Bool}{n a:Nat}{i:Nat}{xs:Array Value}{x:Value}{Q:Value->Shared->Prop}(Z:En k n a i s.heap)(ha:a<n)(hs:cw k s.heap a xs)(hx:xs[i]?=some x)
  (hQ:∀ h' t,IsEnumOut h' (n+1) n ((i:Int)+1) x s.heap.objs.size->ju k h' n a (i+1)->IsT h' s.heap.objs.size #[.int i t,x]->h'.objs.size=s.heap.objs.size+1->Off [n,n+1] s.heap h'->Q (.ref s.heap.objs.size) { s with heap:=h',toks:=s.toks+1 }) :
  wpAny (model prog w) A (Builtin.«enumerate.__next__» ⟨[.ref (n+1)],[]⟩) (fun fin s'=>∃ v,fin=.done (.ret v)/\Q v s') E s:=by
 obtain ⟨⟨last,ob⟩,src⟩:=Z
 obtain ⟨hp,gg,dd,tt,oo⟩:=s
 have n1:(n+1:Addr)≠n:=fD aaa
 show wpAny _ _ (field (.ref (n+1)) 2 >>= _) _ _ _
 refine aac (wpAny_field ob rfl (x:=.ref n) rfl (aac (nv src hs hx fun g1 VA q1=>?_)))
 replace q1:Heap.SameBut n hp g1:=q1
 have Xt:IsEnum g1 (n+1) n i last:=(q1.2 _ n1).trans ob
 show wpAny _ _ (field (.ref (n+1)) 3 >>= _) _ _ ⟨g1,gg,dd,tt,oo⟩
 refine aac (wpAny_field Xt rfl (x:=rawInt i) rfl ?_)
 show wpAny _ _ (field (.ref (n+1)) 4 >>= _) _ _ ⟨g1,gg,dd,tt,oo⟩
 refine aac (wpAny_field Xt rfl (x:=.none) rfl ?_)
 show wpAny _ _ (mkInt i >>= _) _ _ ⟨g1,gg,dd,tt,oo⟩
 refine aac (wpAny_mkInt ?_)
 show wpAny _ _ (setField (.ref (n+1)) 3 (rawInt ((i:Int)+1)) >>= _) _ _ ⟨g1,gg,dd,tt+1,oo⟩
 refine aac (wpAny_setField_rec Xt (by simp) fun g2 Ti q2=>?_)
 replace q2:Heap.SameBut (n+1) g1 g2:=q2
 replace Ti:IsEnum g2 (n+1) n ((i:Int)+1) last:=Ti
 show wpAny _ _ (setField (.ref (n+1)) 4 .none >>= _) _ _ ⟨g2,gg,dd,tt+1,oo⟩
 refine aac (wpAny_setField_rec Ti (by simp) fun g3 Xu q3=>?_)
 replace q3:Heap.SameBut (n+1) g2 g3:=q3
 replace Xu:IsEnum g3 (n+1) n ((i:Int)+1) last:=Xu
 show wpAny _ _ (newTuple [.int i tt,x] >>= _) _ _ ⟨g3,gg,dd,tt+1,oo⟩
 refine aac (wpAny_newTuple ?_)
 have z3:g3.objs.size=hp.objs.size:=by rw [q3.1,q2.1,q1.1]
 have elt:n+1<hp.objs.size:=aae ob
 obtain ⟨g4,e4⟩:∃ g4,g4=g3.push { cls:=.type "tuple",data:=.seq #[.int i tt,x] }:=⟨_,rfl⟩
 have Zd:IsEnum g4 (n+1) n ((i:Int)+1) last:=by rw [e4];exact aab _ Xu
 have t4:IsT g4 hp.objs.size #[.int i tt,x]:=by rw [e4,<- z3];exact aaf _ rfl
 have z4:g4.objs.size=hp.objs.size+1:=by rw [e4,Heap.size_push,z3]
 have o4:Off [n,n+1] hp g4:=by
  rw [e4]
  exact (((Off.of q1 (by simp)).trans (Off.of q2 (by simp))).trans (Off.of q3 (by simp))).trans (Off.push _)
 have Ze:ju k g4 n a (i+1):=VA.keep fun o e=>by
  rw [e4]
  exact aab _ ((q3.2 _ n1.symm).trans ((q2.2 _ n1.symm).trans e))
 show wpAny _ _ (Builtin.SmallTypes.ownedTupleIsFree (.ref (n+1)) >>= _) _ _ ⟨_,gg,dd,tt+1,oo⟩
 rw [z3,<- e4]
 clear e4 Xu q3 Ti q2 Xt q1 VA z3
 refine aac ?_
 unfold Builtin.SmallTypes.ownedTupleIsFree
 refine aac (wpAny_field Zd rfl (x:=.none) rfl (aap ?_))
 rw [if_pos rfl]
 refine aac (wpAny_rule (aac (wpAny_field Zd rfl (x:=last) rfl (aac (wpAny_setField_rec Zd (by simp) fun g5 Zf q5=>?_)))))
 replace q5:Heap.SameBut (n+1) g4 g5:=q5
 replace Zf:IsEnum g5 (n+1) n ((i:Int)+1) x:=Zf
 show wpAny _ _ (Builtin.SmallTypes.ownedTupleHandOut (.ref (n+1)) (.ref hp.objs.size) >>= _) _ _ ⟨g5,gg,dd,tt+1,oo⟩
 refine aac ?_
 unfold Builtin.SmallTypes.ownedTupleHandOut
 refine aac (wpAny_setField_rec Zf (by simp) fun g6 Zg q6=>?_)
 replace q6:Heap.SameBut (n+1) g5 g6:=q6
 replace Zg:IsEnumOut g6 (n+1) n ((i:Int)+1) x hp.objs.size:=Zg
 refine wpAny_setField_rec Zg (by simp) fun g7 Zh q7=>?_
 replace q7:Heap.SameBut (n+1) g6 g7:=q7
 replace Zh:IsEnumOut g7 (n+1) n ((i:Int)+1) x hp.objs.size:=Zh
 have up:∀ c o,c≠n+1->g4.get? c=some o->g7.get? c=some o:=fun c o hc e=>(q7.2 _ hc).trans ((q6.2 _ hc).trans ((q5.2 _ hc).trans e))
 refine aac (wpAny_letGo (aap ⟨_,rfl,hQ g7 tt Zh (Ze.keep fun o e=>up _ o n1.symm e) (up _ _ (Nat.ne_of_gt elt) t4) (by rw [q7.1,q6.1,q5.1,z4]) fun c o hc e=>?_⟩))
 exact up c o (fun z=>hc (by simp [z])) (o4 c o hc e)
theorem Gh{k:Bool}{n a:Nat}{i:Nat}(Z:En k n a i s.heap)(ha:a<n)(hs:cw k s.heap a xs)(hx:xs[i]?=some x)(hQ:∀ h' t,IsEnumOut h' (n+1) n ((i:Int)+1) x s.heap.objs.size->ju k h' n a (i+1)->IsT h' s.heap.objs.size #[.int i t,x]->h'.objs.size=s.heap.objs.size+1->Off [n,n+1] s.heap h'->Q (some (.ref s.heap.objs.size)) { s with heap:=h',toks:=s.toks+1 }):
  wpAny (model prog w) A (pyNext (.ref (n+1))) Q E s:=by
 have ty:s.TypeIs (.ref (n+1)) "enumerate":=by obtain ⟨last,ob⟩:=Z.ob;exact⟨_,ob,rfl⟩
 unfold pyNext
 exact aac (wpAny_attempt (wpAny_callSpecial?_slot (name:=Str.ofString "__next__") ty F.slot_enumerate_next (wpAny_call_entry F.slot_enumerate_next ty F.entry_enumerate_next
  (M7 Z ha hs hx fun h' t b1 b2 b3 b4 b5=>aap (hQ h' t b1 b2 b3 b4 b5)) (F.args_enumerate_next_1 _))))
theorem wu{k:Bool}{n a:Nat}{i:Nat}(hh:A.handled=none)(Z:En k n a i s.heap)(hs:cw k s.heap a xs)(hx:xs[i]?=none)(hQ:∀ h',Off [n,n+1] s.heap h'->Q none { s with heap:=h' }):wpAny (model prog w) A (pyNext (.ref (n+1))) Q E s:=by
 obtain ⟨⟨last,ob⟩,src⟩:=Z
 have ty:s.TypeIs (.ref (n+1)) "enumerate":=⟨_,ob,rfl⟩
 unfold pyNext
 refine aac (wpAny_attempt (wpAny_callSpecial?_slot (name:=Str.ofString "__next__") ty F.slot_enumerate_next (wpAny_call_entry F.slot_enumerate_next ty F.entry_enumerate_next ?_ (F.args_enumerate_next_1 _))))
 show wpAny _ _ (field (.ref (n+1)) 2 >>= _) _ _ _
 refine aac (wpAny_field ob rfl (x:=.ref n) rfl (aac (yp hh src hs hx fun h' e off ⟨o,ho,hc⟩=>?_)))
 exact aac (wpAny_isInstance (T:="StopIteration") (b:=true) ⟨o,ho,hc⟩ isSubtype_stop (aap (hQ _ fun c u hc e=>off c u (fun z=>hc (by simp [z])) e)))
abbrev Tj (k:Bool) (h:Heap) (a:Addr):Heap:=(h.push (dU k a)).push { cls:=.type "enumerate",data:=.fields #[.none,.bool false,.ref h.objs.size,rawInt 0,.none,.none] }
end
end L2
namespace L2
open PySem
open AutoSeq1 (wpAny_loadPart')
theorem M8(k:Bool)(a:Addr)(xs:Array Value):
  Meets (Builtin.«enumerate.__new__» ⟨[.type "enumerate",.ref a],[]⟩) (fun _ R s=>cw k s.heap a xs/\R (.ok (.ret (.ref (s.heap.objs.size+1)))) { s with heap:=Tj k s.heap a }) :=
 .of_wp fun prog w A R s h=>by
  obtain ⟨hp,gg,dd,tt,oo⟩:=s
  obtain ⟨src,r⟩:=h
  have sub:=sub_enumerate
  have S:cw k (Shared.heap ⟨hp,gg,dd,tt,oo⟩) a xs:=src
  obtain ⟨ob,e⟩:∃ ob,hp.get? a=some ob:=by
   cases k
   ·obtain ⟨ob,e,_⟩:=src;exact⟨ob,e⟩
   ·obtain ⟨ob,e,_⟩:=src;exact⟨ob,e⟩
  obtain ⟨oc,od,ot,os⟩:=ob
  have last:(hp.push (dU k a)).objs.size=hp.objs.size+1:=Heap.size_push ..
  have r':R (.ok (.ret (.ref (hp.push (dU k a)).objs.size))) ⟨Tj k hp a,gg,dd,tt,oo⟩:=by rw [last];exact r
  wp_walk using wpAny_loadPart' e
  refine wpAny_stack_any fun st=>aap ?_
  split
  ·rename_i c _ _ _ _ _
   cases (c == Value.type "enumerate") <;> (wp_walk using wpAny_loadPart' e,nr S;exact⟨_,rfl,r'⟩)
  ·wp_walk using wpAny_loadPart' e,nr S
   exact⟨_,rfl,r'⟩
open PySem PySem.Spec PyProof.Rows
def Rr(K : Frag)(k : Bool)(a : Addr) : It :=
  ⟨fun i H => ∃ xs x, Sq k K H a xs /\ xs[i]?=some x,
   fun i H v H' => ∃ p x, v=.ref p /\ H p=none /\ (∀ xs, Sq k K H a xs -> xs[i]?=some x) /\ H'=upd H p (.tup [.int i, x]),
   fun i H => ∃ xs, Sq k K H a xs /\ xs.length <= i⟩
theorem M9{P:Program}{w:World}{K:Frag}{es:List Expr}{kk:Nat}{pos:Pos}{k:Bool}(n a:Nat)(ha:a<n) :
  Turn P w K (.Tuple es kk pos) (Rr K k a) [n+1,n] (n+1) (fun i h=>En k n a i h) where
 mem:=by simp
 obj:=fun i h st c hc=>by
  obtain ⟨⟨last,ob⟩,src⟩:=st
  simp only [aaC,not_mem_nil,or_false] at hc
  rcases hc with rfl|rfl
  ·exact⟨_,ob,fun v z=>nomatch z⟩
  ·exact src.obj
 keep:=fun i h h' st k=>by
  obtain ⟨⟨last,ob⟩,src⟩:=st
  exact⟨⟨last,k _ (by simp) _ ob⟩,src.keep fun o e=>k _ (by simp) o e⟩
 item:=by
  intro X hP hw hK hc i pins s σ H E I hf st hg
  subst hP hw hK
  obtain ⟨xs,x,qx,ex⟩:=hg
  obtain ⟨Qm,r1,s1,_⟩:=I.sq qx
  obtain ⟨u,hu,ru⟩:=r1.get ex
  refine Gh st ha s1 (x:=u) (by simpa using hu) fun h' t ob src hT lI off=>⟨_,rfl,?_⟩
  have Ay:H s.heap.objs.size=none:=I.bh.fresh (aah _)
  have YH:n+1<s.heap.objs.size:=by obtain ⟨last,b⟩:=st.ob;exact aae b
  refine wpAny_letOwnedTupleGo_enum ob fun h2 Ti iC=>?_
  have tH:Off [n+1,n] s.heap h2:=fun c o hc e=>(iC.2 c fun z=>hc (by simp [z])).trans (off c o (fun z=>hc (by simp only [aaC,not_mem_nil,or_false] at z ⊢;exact z.symm)) e)
  have mZ:IsT h2 s.heap.objs.size #[.int i t,u]:=(iC.2 _ (Nat.ne_of_gt YH)).trans hT
  refine⟨.ref s.heap.objs.size,upd H s.heap.objs.size (.tup [.int i,x]),?_,rfl,⟨_,x,rfl,Ay,fun zs UE=>by rw [I.CK UE qx];exact ex,rfl⟩,?_,fun c hc=>?_⟩
  ·refine Inv.off (s:=s) (h':=h2) (t':=s.toks+1) (ch:=[n+1,n]) I hf tH (I.bh.IC (fun c hc=>(hf c hc).1) tH (aah _) ?_) (fun c o _ e hn=>?_) fun c o e=>?_
   ·exact⟨by show 2<=sizeLine;decide,[.int i t,u],.cons ⟨t,rfl⟩ (.cons ru .nil),⟨_,mZ,rfl,_,rfl⟩⟩
   ·rw [ay (aa1 (aae e))];exact hn
   ·rw [ay (aJ e Ay)];exact e
  ·exact⟨⟨_,Ti⟩,src.keep fun o e=>(iC.2 _ (fD aaa)).trans e⟩
  ·have cn:c≠s.heap.objs.size:=by
    simp only [aaC,not_mem_nil,or_false] at hc
    rcases hc with rfl|rfl <;> exact fD aaa
   rw [ay cn];exact (hf c hc).1
 done:=by
  intro X hP hw hK hc i pins s σ H E I hf st hg
  subst hP hw hK
  obtain ⟨xs,qx,FO⟩:=hg
  obtain ⟨Qm,r1,s1,_⟩:=I.sq qx
  have e1:=r1.length
  refine wu (I.ok.hd hc) st s1 (by simp;lia) fun h' off=>⟨rfl,?_⟩
  have tH:Off [n+1,n] s.heap h':=fun c o hc e=>off c o (fun z=>hc (by simp only [aaC,not_mem_nil,or_false] at z ⊢;exact z.symm)) e
  exact Inv.off (s:=s) (t':=s.toks) I hf tH (I.bh.off (fun c hc=>(hf c hc).1) tH) (fun _ _ _ _ q=>q) fun _ _ q=>q
 self:=fun _ _ _ _ _ st h=>by
  obtain ⟨last,ob⟩:=st.ob
  exact wpAny_pyIter_enum ob h
section
variable {X:Cx}
def JY(K:Frag)(k:Bool)(ta:TA):TI:=fun σ H R=>ta σ H fun vs H1=>∃ a,vs=[.ref a]/\(∃ xs,Sq k K H1 a xs)/\R (Rr K k a) H1
theorem Na(k:Bool){kk:Nat}(hg:Gl X "enumerate")(hm:X.mg "enumerate"=none)(ha:PA X [a] ta)(hs:starEach [a] X.env=[(false,eval a X.env)]:=by rfl):
  PI X (.Tuple es kk Ai) (.Call (.Name "enumerate" p) [a] [] pos) (JY X.K k ta):=by
 intro pins s σ H R I h
 refine Call_ (jy I hg hm boot_enumerate (callWith_type1 (cu (ha pos pins s σ H _ I h) fun us s1 ⟨vs,H1,I1,r1,q1⟩=>?_) (by rw [hs];rfl) (by rfl)))
 obtain ⟨a',e,⟨xs,qx⟩,q⟩:=q1
 subst e
 obtain ⟨u,rfl,ru⟩:=vals1 r1
 cases ru
 obtain ⟨Qm,r1,UG,_⟩:=I1.sq qx
 refine callType_new PySem.F.called_enumerate aa8 (PySem.F.typeCall_enumerate_1 _) (PySem.F.newCall_enumerate_1 _) (fun obj=>PySem.F.args_object_init_2 obj _) PySem.F.entry_enumerate_new (M8 k a' Qm.toArray) ⟨UG,?_⟩
 have z1:(s1.heap.push (dU k a')).objs.size=s1.heap.objs.size+1:=Heap.size_push ..
 have g2:(Tj k s1.heap a').get? (s1.heap.objs.size+1)=some { cls:=.type "enumerate",data:=.fields #[.none,.bool false,.ref s1.heap.objs.size,rawInt 0,.none,.none] }:=by rw [<- z1];exact aaf _ rfl
 have g1:(Tj k s1.heap a').get? s1.heap.objs.size=some (dU k a'):=aab _ (aaf _ (by cases k <;> rfl))
 have old:∀ c o,s1.heap.get? c=some o->(Tj k s1.heap a').get? c=some o:=fun c o x=>aab _ (aab _ x)
 have Z:En k s1.heap.objs.size a' 0 (Tj k s1.heap a'):=⟨⟨_,g2⟩,tG g1⟩
 show _/\_
 refine⟨⟨_,g2,rfl⟩,wpAny_pyIter_enum g2 ?_⟩
 refine⟨_,_,_,_,H1,rfl,I1.kept (t':=s1.toks) old,M9 s1.heap.objs.size a' UG.lt,Z,fun c hc=>?_,q⟩
 have Ox:s1.heap.objs.size<=c:=by
  simp only [aaC,not_mem_nil,or_false] at hc
  rcases hc with rfl|rfl <;> first|exact le_add_right _ _|exact aah _
 exact I1.we Ox (I1.bh.fresh Ox)
theorem nK(K:Frag)(hK:X.K=K)(k:Bool){kk:Nat}(hg:Gl X "enumerate")(hm:X.mg "enumerate"=none)(ha:PA X [a] ta)(hs:starEach [a] X.env=[(false,eval a X.env)]:=by rfl):
  PI X (.Tuple es kk Ai) (.Call (.Name "enumerate" p) [a] [] pos) (JY K k ta):=hK ▸ Na k hg hm ha hs
end
section
variable {K:Frag}{H:Hp}{σ:St}{D:Ends}
def VB(K:Frag)(k:Bool):List V->Hp->(It->Hp->Prop)->Prop:=fun vs H R=>∃ a,vs=[.ref a]/\(∃ xs,Sq k K H a xs)/\R (Rr K k a) H
theorem Nb{k:Bool}(h:ts σ H fun vs H1=>VB K k vs H1 R):JY K k ts σ H R:=h
theorem VC{k:Bool}(e:Sq k K H a xs)(h:R (Rr K k a) H):VB K k [.ref a] H R:=⟨a,rfl,⟨_,e⟩,h⟩
end
inductive az(K:Frag)(H:Hp):List V->List (List Int)->Prop where
 | nil:az K H [] []
 | cons {a:Addr} {r:List Int} {xs:List V} {rs:List (List Int)} (h:aC K H a (r.map V.int)) (t:az K H xs rs):az K H (.ref a::xs) (r::rs)
namespace az
variable {K:Frag}{H H':Hp}
theorem length:∀ {xs:List V} {rs:List (List Int)},az K H xs rs->rs.length=xs.length
 | _,_,.nil=>rfl
 | _,_,.cons _ t=>by rw [length_cons,length_cons,t.length]
theorem get:∀ {xs:List V} {rs:List (List Int)} {i:Nat} {x:V},az K H xs rs->xs[i]?=some x->∃ a r,x=.ref a/\aC K H a (r.map V.int)/\rs[i]?=some r
 | _,_,_,_,.nil,h=>by simp at h
 | _,_,0,_,.cons (a:=a) (r:=r) h _,e=>by
  simp at e
  exact⟨a,r,e.symm,h,rfl⟩
 | _,_,i+1,_,.cons _ t,e=>by
  obtain ⟨a,r,h1,h2,h3⟩:=get (i:=i) t (by simpa using e)
  exact⟨a,r,h1,h2,by simpa using h3⟩
theorem same:∀ {xs:List V} {rs:List (List Int)},az K H xs rs->aj H H'->az K H' xs rs
 | _,_,.nil,_=>.nil
 | _,_,.cons h t,s=>.cons (s.at h) (t.same s)
theorem append:∀ {xs ys:List V} {rs qs:List (List Int)},az K H xs rs->az K H ys qs->az K H (xs++ys) (rs++qs)
 | _,_,_,_,.nil,u=>u
 | _,_,_,_,.cons h t,u=>.cons h (t.append u)
theorem snoc(t:az K H xs rs)(h:aC K H a (r.map V.int)):az K H (xs++[.ref a]) (rs++[r]):=t.append (.cons h .nil)
theorem off:∀ {xs:List V} {rs:List (List Int)},az K H xs rs->H l=some (.lst ys)->az K (upd H l (.lst zs)) xs rs
 | _,_,.nil,_=>.nil
 | _,_,.cons h t,e=>.cons ((JE h e).imp (fun q=>q.imp (fun q=>by rw [ay (fun z=>by rw [z,AZ] at q;cases q)];exact sG _ _ q) fun ⟨o,q⟩=>⟨o,by rw [ay (fun z=>by rw [z,AZ] at q;cases q)];exact sG _ _ q⟩) id) (t.off e)
theorem tells:∀ {xs:List V} {rs:List (List Int)},az K H xs rs->d5 K H xs (rs.map fun r=>.tuple (r.map PyData.int))
 | _,_,.nil=>.nil
 | _,_,.cons h t=>.cons (dP.row h) t.tells
end az
theorem fm{K:Frag}{H:Hp}{l a:Addr}{xs ys zs:List V}(h:aC K H a xs)(e:H l=some (.lst ys)):aC K (upd H l (.lst zs)) a xs :=
 (JE h e).imp (fun q=>q.imp (fun q=>by rw [ay (fun z=>by rw [z,AZ] at q;cases q)];exact sG _ _ q) fun ⟨o,q⟩=>⟨o,by rw [ay (fun z=>by rw [z,AZ] at q;cases q)];exact sG _ _ q⟩) id
section
variable {K:Frag}{H:Hp}{σ:St}{Q:VK}{ix:List (Option Nat)}
theorem kL(t:Nat)(fr:St)(n:Nat)(rs:Nat->List (List Int))(gn:pick ix σ=List.replicate t none++fr)(h0:rs 0=[])(hn:∀ i,(rs i).length<=1000)(ir:∀ H',aj H H'->J.stop n H')(FR:∀ i H',i<n->aj H H'->J.go i H')(step:∀ i x H' H2 own,own.length=t->i<n->aj H H'->J.Eg i H' x H2->∀ (Qy:St->VK) (Qn:St->Hp->Prop),
   (∀ iQ a r H5,iQ.length=t->aj H' H5->aC K H5 a (r.map V.int)->rs (i+1)=rs i++[r]->Qy (iQ++fr) (.ref a) H5)->(∀ iQ H4,iQ.length=t->aj H' H4->rs (i+1)=rs i->Qn (iQ++fr) H4) ->
   g x (own++fr) H2 fun σ2 H3=>tt σ2 H3 fun b H4=>if b=true then te σ2 H4 (Qy σ2) else Qn σ2 H4)(hQ:∀ l H' ys,H l=none->aj H H'->H' l=some (.lst ys)->az K H' ys (rs n)->Q (.ref l) H'):aV ix g tt te σ Q J H:=by
 intro l hl
 refine⟨fun i m σ1 ys H'=>m=n - i/\i<=n/\(∃ own:St,own.length=t/\σ1=own++fr)/\aj H H'/\H' l=some (.lst ys)/\az K H' ys (rs i),⟨n,by simp,aa0 _,⟨_,length_replicate,gn⟩,aj.aZ hl,aw,by rw [h0];exact .nil⟩,?_⟩
 rintro i m σ1 ys H' ⟨rfl,hi,⟨own,ho,rfl⟩,hs,fE,hr⟩
 refine⟨fE,?_⟩
 by_cases fk:i<n
 ·refine .inr ⟨FR i H' fk hs,n - (i+1),aaa,fun x H2 hy=>step i x H' H2 own ho fk hs hy _ _ (fun iQ a r H5 wj s5 ha er=>?_) fun iQ H4 wj s4 er=>?_⟩
  ·have l5:=s5 _ _ fE
   refine⟨l5,aaG (by rw [<- hr.length];exact hn i) (dO (aah 1000)),rfl,fk,⟨iQ,wj,rfl⟩,fun b o e=>?_,aw,?_⟩
   ·rw [ay (aJ e hl)]
    exact s5 _ _ (hs _ _ e)
   ·rw [er]
    exact ((hr.same s5).off l5).snoc (fm ha l5)
  ·exact⟨rfl,fk,⟨iQ,wj,rfl⟩,hs.trans s4,s4 _ _ fE,by rw [er];exact hr.same s4⟩
 ·obtain rfl:i=n:=by lia
  exact .inl ⟨ir H' hs,hQ l H' ys hl hs fE hr⟩
end
end L2
namespace L2
open PySem PySem.Spec PyProof.Rows PySem.W
section
variable {M:Model}{A:Around}{E:Value->Shared->Prop}{s:Shared}
theorem xO{yO:Bool}(wt:A.frames=some (env::outer))(hl:s.heap.FunFrames base (env::outer))(hf:env.frame=some L)(he:s.heap.get? e=some oe)(hd:oe.data=.fields vs)(lI:1<vs.size)(h:∀ h' T,(∀ b o,b≠e->b∉sx (env::outer)->s.heap.get? b=some o->h'.get? b=some o)->(∀ b o,b≠e->s.heap.get? b=some o->∃ sl,h'.get? b=some { o with slots:=sl }) ->
   s.heap.get? T=none->T≠e->h'.get? e=some (oe.mapFields (·.setIfInBounds 1 (.ref T)))->(∃ oT ts,h'.get? T=some oT/\oT.data=.fields ts/\ts[3]?=some (rawInt L))->Q () { s with heap:=h' }):
  wpAny M A (do let a <- frameOf env;let pl <- entryPlaceOf L yO;let b <- EntryCells.newEntry head a .none (rawInt L) .none pl;setField (.ref e) 1 b) Q E s:=by
 have Q5:e∉(env::outer).filterMap (·.frame):=fun hm=>by
  obtain ⟨_,o,ho,yP⟩:=hl.mem hm
  rw [he] at ho;injection ho with ho;subst ho;exact yP vs hd
 refine aac (wpAny_frameOf_fun wt hl hf fun h₁ MU=>aac (wpAny_entryPlaceOf fun pl oy=>?_))
 unfold EntryCells.newEntry newFields
 refine aac (wpAny_newObj_type ?_ (oy.sizeOk5 _ _ _ _ _))
 have Vl:h₁.get? e=some oe:=(MU.2.1 e Q5).trans he
 obtain ⟨tb,Zi⟩:∃ tb:Obj,tb={ cls:=.type "traceback",dict:=none,data:=.fields ([head,.ref L,.none,rawInt L,.none]++(if pl.isEmpty then List.replicate 6 Value.none else pl)).toArray }:=⟨_,rfl⟩
 have htd:∃ ts,tb.data=.fields ts/\ts[3]?=some (rawInt L):=by rw [Zi];exact⟨_,rfl,by simp⟩
 have yP:tb.isFreed=false:=by rw [Zi];rfl
 show wpAny M A (setField (.ref e) 1 (.ref h₁.objs.size)) Q E { s with heap:=h₁.push _ }
 rw [<- Zi]
 have Vm:=aab (h:=h₁) tb Vl
 have JG:h₁.objs.size≠e:=Nat.ne_of_gt (aae Vl)
 refine wpAny_setField Vm hd lI (h _ h₁.objs.size (fun b o Ah Y5 hb=>?_) (fun b o Ah hb=>?_) (Heap.get?_none_of_le (by rw [MU.1];exact aah _)) JG (Heap.get?_update_self _ Vm (Obj.isFreed_of_fields (Obj.data_mapFields hd _))) ?_)
 ·rw [Heap.get?_update_other _ _ (Ne.symm Ah)]
  exact aab _ ((MU.2.1 b Y5).trans hb)
 ·obtain ⟨sl,hs⟩:=MU.2.2 b o hb
  exact⟨sl,by rw [Heap.get?_update_other _ _ (Ne.symm Ah)];exact aab _ hs⟩
 ·obtain ⟨ts,q1,q2⟩:=htd
  exact⟨tb,ts,(Heap.get?_update_other _ _ (Ne.symm JG)).trans (aaf h₁ yP),q1,q2⟩
theorem JZ(wt:A.frames=some (env::outer))(hl:s.heap.FunFrames base (env::outer))(hf:env.frame=some L)(he:s.heap.get? e=some oe)(hd:oe.data=.fields vs)(hh:yQ s.heap e vs T0)(h:∀ h' T,(∀ b o,b≠e->some b≠T0->b∉sx (env::outer)->s.heap.get? b=some o->h'.get? b=some o)->(∀ b o,b≠e->some b≠T0->s.heap.get? b=some o->∃ sl,h'.get? b=some { o with slots:=sl }) ->
   s.heap.get? T=none->T≠e->h'.get? e=some (oe.mapFields (·.setIfInBounds 1 (.ref T)))->(∃ oT ts,h'.get? T=some oT/\oT.data=.fields ts/\ts[3]?=some (rawInt L))->Q () { s with heap:=h' }):
  wpAny M A (noteFrame (.ref e) env) Q E s:=by
 unfold noteFrame
 simp only [hf]
 cases T0 with
 | none =>
  have h1:vs[1]?=some .none:=hh
  refine aac (wpAny_field he hd h1 ?_)
  rw [if_neg aa8]
  exact xO wt hl hf he hd (Array.getElem?_eq_some_iff.mp h1).1 fun h' T k1 k2 k3 k4 k5 k6=>h h' T (fun b o b1 _ b3 b4=>k1 b o b1 b3 b4) (fun b o b1 _ b3=>k2 b o b1 b3) k3 k4 k5 k6
 | some T =>
  obtain ⟨h1,JG,oT,ts,hT,oz,h3⟩:=hh
  refine aac (wpAny_field he hd h1 ?_)
  rw [if_pos (show (Value.ref T != Value.none)=true from by simp)]
  refine aac (wpAny_field hT oz h3 ?_)
  rw [if_neg (show ¬ ((Value.none == rawInt L)=true) from by simp [rawInt])]
  refine aac (wpAny_setField hT oz (Array.getElem?_eq_some_iff.mp h3).1 ?_)
  have other:∀ b,b≠T->(s.heap.update T (Obj.mapFields (·.setIfInBounds 3 Value.none))).get? b=s.heap.get? b:=fun b hb=>Heap.get?_update_other _ _ (Ne.symm hb)
  have tV:∀ b o,s.heap.get? b=some o->(∀ vs,o.data≠.fields vs)->b≠T:=fun b o hb yP q=>by
   rw [q,hT] at hb;injection hb with hb;subst hb;exact yP ts oz
  have mZ:=Heap.get?_update_self (Obj.mapFields (·.setIfInBounds 3 Value.none)) hT (Obj.isFreed_of_fields (Obj.data_mapFields oz _))
  refine xO wt (hl.of_keeps fun b o hb yP=>⟨o,(other b (tV b o hb yP)).trans hb,rfl⟩) hf ((other e (Ne.symm JG)).trans he) hd (Array.getElem?_eq_some_iff.mp h1).1 fun h' T' k1 k2 k3 k4 k5 k6=>?_
  refine h h' T' (fun b o b1 b2 b3 b4=>k1 b o b1 b3 ((other b fun z=>b2 (by rw [z])).trans b4)) (fun b o b1 b2 b4=>k2 b o b1 ((other b fun z=>b2 (by rw [z])).trans b4)) ?_ k4 k5 k6
  by_cases hq:T'=T
  ·rw [hq,mZ] at k3;cases k3
  ·rw [other T' hq] at k3;exact k3
theorem oX(he:s.heap.get? e=some oe)(hd:oe.data=.fields vs)(h1:vs[1]?=some (.ref T))(hT:s.heap.get? T=some oT)(oz:oT.data=.fields ts)(h3:3<ts.size)(h:∀ h',(∀ b o,b≠T->s.heap.get? b=some o->h'.get? b=some o)->(∃ oT ts,h'.get? T=some oT/\oT.data=.fields ts/\ts[3]?=some (fl.elim .none fun f=>rawInt f))->Q () { s with heap:=h' }):wpAny M A (setFlight (.ref e) fl) Q E s:=by
 unfold setFlight
 refine aac (wpAny_field he hd h1 ?_)
 rw [if_pos (show (Value.ref T != Value.none)=true from by simp)]
 refine wpAny_setField hT oz h3 (h _ (fun b o hb e=>(Heap.get?_update_other _ _ (Ne.symm hb)).trans e) ⟨_,_,Heap.get?_update_self _ hT (Obj.isFreed_of_fields (Obj.data_mapFields oz _)),Obj.data_mapFields oz _,?_⟩)
 simp [h3]
theorem EW{env:Env}{L e T:Addr}{oe oT:Obj}{vs ts:Array Value}{Q:Unit->Shared->Prop}(hf:env.frame=some L)(he:s.heap.get? e=some oe)(hd:oe.data=.fields vs)(h1:vs[1]?=some (.ref T))(hT:s.heap.get? T=some oT)(oz:oT.data=.fields ts)(h3:ts[3]?=some (rawInt L))(h:Q () s) :
  wpAny M A (noteFrame (.ref e) env) Q E s:=by
 unfold noteFrame
 simp only [hf]
 refine aac (wpAny_field he hd h1 ?_)
 rw [if_pos (show (Value.ref T != Value.none)=true from by simp)]
 refine aac (wpAny_field hT oz h3 ?_)
 rw [if_pos (by simp)]
 exact aap h
end
def Zj(mg:Str->Option Value)(h:Heap)(H:Hp)(h0:Heap)(ps:List (Addr×Obj))(L a:Addr)(C:XC):Prop:=∃ oe vs T oT ts,h.get? a=some oe/\oe.cls=.ref C.1/\oe.dict=C.2/\oe.data=.fields vs/\A0 (tW mg C.1) vs/\vs[1]?=some (.ref T)/\T≠a/\h.get? T=some oT/\oT.data=.fields ts/\ts[3]?=some (rawInt L) /\
 H a=none/\(h0.get? a=none/\∀ p∈ps,p.1≠a)/\H T=none/\h0.get? T=none/\∀ p∈ps,p.1≠T
def XM(X:Cx)(EX:yR):Value->Shared->Prop:=fun e s'=>∃ a C σ' H',e=.ref a/\Inv X.Cp [] σ' H' s'/\Zj X.mg s'.heap H' X.s₀.heap X.pn X.env.locals a C/\EX C σ' H'
def XP(X:Cx)(EX:yR):Value->Shared->Prop:=fun e s'=>XW X EX e s'\/XM X EX e s'
section
variable {X:Cx}{EX:yR}{σ:St}{H:Hp}{s:Shared}
theorem Inv.mark(I:Inv X [] σ H s)(hT:s.heap.get? T=some oT)(oz:oT.data=.fields ts)(n1:H T=none)(n2:X.s₀.heap.get? T=none)(n3:∀ p∈X.pn,p.1≠T)(f1:∀ b o,b≠T->s.heap.get? b=some o->h'.get? b=some o)(f2:∃ o,h'.get? T=some o):
  Inv X [] σ H { s with heap:=h' }:=by
 obtain ⟨m1,m2,m3⟩:=I.yT hT oz
 have Rb:gO X.prog X.w H h':=I.bh.off (ch:=[T]) (fun b hb=>by rw [show b=T by simpa using hb];exact n1) fun b o hb q=>f1 b o (by simpa using hb) q
 refine Inv.qp (s:=s) (h':=h') (t':=s.toks) (ch:=[T]) I (fun b hb=>?_) (fun b o b1 b2 b3 e _=>f1 b o (by simpa using b3) e) (fun b o b1 b2 b3 e _=>⟨o.slots,f1 b o (by simpa using b3) e⟩) (fun b o _ _ n=>n) (fun b o b3 e=>⟨o,f1 b o (by simpa using b3) e⟩) (fun b xs e=>e) (fun b o u e=>e) (fun b ps e=>⟨#[],by rw [e];simp⟩) (fun m hm=>?_) Rb
 ·obtain rfl:b=T:=by simpa using hb
  exact⟨n2,m1,m2,fun p hp=>n3 p (by simpa using hp)⟩
 ·obtain ⟨o,es,ep,ho,HL,r⟩:=hm
  exact⟨o,es,ep,f1 _ o (fun z=>m1 z.symm) ho,HL,r⟩
theorem Gi(rD:X.stack=X.env::X.outer)(wt:X.env.frame=some X.env.locals)(hex:X.ex=[]):PassesOwn (model X.prog X.w) X.A X.env (XP X EX):=by
 rintro e s' (h|h)
 ·obtain ⟨a,C,σ',H',rfl,I0,⟨oe,vs,T0,he,hc,JH,hd,lI,hh,C4,⟨LM,MY⟩,Cj⟩,hE⟩:=h
  have Za:X.Cp.A.frames=some (X.env::X.outer):=by rw [<- rD];exact I0.ok.frames
  refine JZ (base:=X.base) (L:=X.env.locals) Za (rD ▸ I0.stack) wt he hd hh fun h1 T k1 k2 k3 k4 k5 k6=>?_
  obtain ⟨n1,n2,n3⟩:=I0.yT he hd
  have t1:∀ T',T0=some T'->∃ oT ts,s'.heap.get? T'=some oT/\oT.data=.fields ts:=fun T' z=>by
   subst z
   obtain ⟨_,_,oT,ts,q1,q2,_⟩:=hh
   exact⟨oT,ts,q1,q2⟩
  have Q9:∀ b,b∈sx (X.env::X.outer)->b=X.env.locals\/b∈X.fs:=fun b hb=>by
   rcases aaC.mp (I0.oA b (rD ▸ hb)) with z|z
   ·exact .inl z
   ·exact .inr z
  have off:Off (a::(T0.toList++sx (X.env::X.outer))) s'.heap h1:=fun b o hb q=>by
   simp only [aaC,aax,not_or] at hb
   exact k1 b o hb.1 (fun z=>hb.2.1 (by rw [<- z];simp)) hb.2.2 q
  have Ra:gO X.prog X.w H' h1:=I0.bh.off (fun b hb=>by
   simp only [aaC,aax] at hb
   rcases hb with rfl|hb|hb
   ·exact C4
   ·cases T0 with
    | none=>simp at hb
    | some T1 =>
     simp only [Option.toList_some,aaw] at hb
     rw [hb];exact (Cj T1 rfl).1
   ·exact I0.km b (rD ▸ hb)) off
  have F9:∀ b,b∉(a::T0.toList)->b≠a/\some b≠T0:=fun b hb=>by
   simp only [aaC,not_or] at hb
   exact⟨hb.1,fun z=>hb.2 (by rw [<- z];simp)⟩
  have I2:Inv X.Cp [] σ' H' { s' with heap:=h1 }:=by
   refine I0.qp (h':=h1) (t':=s'.toks) (ch:=a::T0.toList) (fun b hb=>?_) (fun b o b1 b2 b3 e _=>?_) (fun b o b1 b2 b3 e _=>?_) (fun b o _ _ n=>n) (fun b o b3 e=>?_) (fun b xs e=>e) (fun b o u e=>e) (fun b ps e=>⟨#[],by rw [e];simp⟩) (fun m hm=>?_) Ra
   ·rcases aaC.mp hb with rfl|hb
    ·exact⟨LM,n1,n2,fun p hp=>MY p (by simpa using hp)⟩
    ·cases T0 with
     | none=>simp at hb
     | some T1 =>
      simp only [Option.toList_some,aaw] at hb
      subst hb
      obtain ⟨oT,ts,q1,q2⟩:=t1 _ rfl
      obtain ⟨m1,m2,m3⟩:=I0.yT q1 q2
      exact⟨(Cj _ rfl).2.1,m1,m2,fun p hp=>(Cj _ rfl).2.2 p (by simpa using hp)⟩
   ·refine k1 b o (F9 b b3).1 (F9 b b3).2 (fun z=>?_) e
    rcases Q9 b z with q|q
    ·exact b1 q
    ·exact b2 q
   ·exact k2 b o (F9 b b3).1 (F9 b b3).2 e
   ·obtain ⟨sl,q⟩:=k2 b o (F9 b b3).1 (F9 b b3).2 e
    exact⟨_,q⟩
   ·obtain ⟨o,es,ep,ho,HL,r⟩:=hm
    obtain ⟨sl,q⟩:=k2 _ o (fun z=>n1 z.symm) (fun z=>by
     obtain ⟨oT,ts,q1,q2⟩:=t1 _ z.symm
     exact (I0.yT q1 q2).1 rfl) ho
    exact⟨_,es,ep,q,HL,r⟩
  have T2:H' T=none:=I0.bh.free k3
  have T3:X.s₀.heap.get? T=none:=by
   cases q:X.s₀.heap.get? T with
   | none=>rfl
   | some o =>
    obtain ⟨o',q1⟩:=I0.base.there T o q (by show T∉X.ex;rw [hex];simp)
    rw [k3] at q1;cases q1
  have T4:∀ p∈X.pn,p.1≠T:=fun p hp z=>by
   have:=(I0.pin p (aav _ hp)).1
   rw [z,k3] at this;cases this
  obtain ⟨oT,ts,Gj,mZ,lK⟩:=k6
  have Zk:=Obj.data_mapFields hd (·.setIfInBounds 1 (Value.ref T))
  have Zl:(vs.setIfInBounds 1 (Value.ref T))[1]?=some (.ref T):=by simp [lI.1]
  unfold cameBackBy
  refine aac (wpAny_field k5 Zk Zl ?_)
  rw [if_neg (by simp)]
  rw [wt]
  refine oX k5 Zk Zl Gj mZ (Array.getElem?_eq_some_iff.mp lK).1 fun h2 f1 f2=>.inr ?_
  obtain ⟨Zm,Zn,q1,q2,q3⟩:=f2
  refine⟨a,C,σ',H',rfl,Inv.mark (s:={ s' with heap:=h1 }) I2 Gj mZ T2 T3 T4 f1 ⟨_,q1⟩,⟨_,_,T,Zm,Zn,f1 _ _ (Ne.symm k4) k5,(Obj.cls_mapFields _ _).trans hc,(fN _ _).trans JH,Zk,lI.set,Zl,k4,q1,q2,q3,C4,⟨LM,MY⟩,T2,T3,T4⟩,hE⟩
 ·obtain ⟨a,C,σ',H',rfl,I0,⟨oe,vs,T,oT,ts,he,hc,JH,hd,lI,h1,VD,hT,oz,h3,C4,⟨LM,MY⟩,T2,T3,T4⟩,hE⟩:=h
  refine EW wt he hd h1 hT oz h3 ?_
  unfold cameBackBy
  refine aac (wpAny_field he hd h1 ?_)
  rw [if_neg (by simp)]
  rw [wt]
  refine oX he hd h1 hT oz (Array.getElem?_eq_some_iff.mp h3).1 fun h2 f1 f2=>.inr ?_
  obtain ⟨Zm,Zn,q1,q2,q3⟩:=f2
  exact⟨a,C,σ',H',rfl,Inv.mark I0 hT oz T2 T3 T4 f1 ⟨_,q1⟩,⟨oe,vs,T,Zm,Zn,f1 _ _ (Ne.symm VD) he,hc,JH,hd,lI,h1,VD,q1,q2,q3,C4,⟨LM,MY⟩,T2,T3,T4⟩,hE⟩
end
theorem Nc{P:Program}{w:World}{K:Frag}{mg:Str->Option Value}{base:Heap}{N:List Str}{qual:Str}{scope:Scope}{f:Addr}{cd:Value}{A:Around}{outer:List Env}{s:Shared}{H:Hp}{E:XK}{e:Value}{s':Shared}
  (h:XP (gP (ET P w mg) P w K mg base N qual scope f cd A outer s H E) (fun C _ H'=>E (.ref C.1) C.2 H') e s'):(gP (ET P w mg) P w K mg base N qual scope f cd A outer s H E).xe e s':=by
 rcases h with h|h
 ·exact C3 h
 obtain ⟨a,C,σ',H',rfl,I,⟨oe,vs,T,oT,ts,he,hc,JH,hd,lI,h1,VD,hT,oz,h3,C4,⟨LM,MY⟩,T2,T3,T4⟩,hE⟩:=h
 have C5:s.heap.get? a=none:=LM
 have T3':s.heap.get? T=none:=T3
 show wpAny (model P w) (A.deeper (envOfC qual scope s.heap.objs.size f cd)) (leaving (envOfC qual scope s.heap.objs.size f cd) (.ref a)) _ _ s'
 unfold leaving
 refine aac (EW (L:=s.heap.objs.size) rfl he hd h1 hT oz h3 (oX (fl:=none) he hd h1 hT oz (Array.getElem?_eq_some_iff.mp h3).1 fun h' f1 f2=>?_))
 have neT:∀ b o,s.heap.get? b=some o->b≠T:=fun b o q z=>by rw [z,T3'] at q;cases q
 refine⟨a,C,H',rfl,I.os,I.bare,⟨fun b o q n hb hx=>f1 b o (neT b o q) (I.base.keep b o q n hb hx),fun b o q n hb hx=>?_,fun b o q n hx=>I.base.free b o q n hx,fun b o q hx=>?_,I.base.lR,I.base.k8,I.base.k9⟩,I.bh.off (ch:=[T]) (fun b hb=>by rw [show b=T by simpa using hb];exact T2) fun b o hb q=>f1 b o (by simpa using hb) q,?_,hE⟩
 ·obtain ⟨sl,q1⟩:=I.base.slot b o q n hb hx
  exact⟨sl,f1 _ _ (neT b o q) q1⟩
 ·obtain ⟨o',q1⟩:=I.base.there b o q hx
  exact⟨o',f1 _ _ (neT b o q) q1⟩
 ·exact⟨oe,vs,some T,f1 _ _ (Ne.symm VD) he,hc,JH,hd,lI,⟨h1,VD,f2⟩,C4,⟨C5,fun _ z=>nomatch z⟩,fun T' e=>by cases e;exact⟨T2,T3',fun _ z=>nomatch z⟩⟩
section
variable {P:Program}{w:World}{K:Frag}{mg:Str->Option Value}{base:Heap}
theorem Def.okP{x:Str}{st:Stmt}{N ps:List Str}{k:Nat}{sp:Sp}(D:Def K mg x st ps)(S:ao N ps (al st))(len:∀ vs H Q E,sp vs H Q E->vs.length=ps.length)
  (di:∀ (f:Addr) (bf:Value) (A:Around) (outer:List Env) (s:Shared) (H:Hp) (vs:List V) (Q:VK) (E:XK),bK k (A.deeper (envOfC x (al st) s.heap.objs.size f bf))->sp vs H Q E ->
   ∃ t,oB ((gP (ET P w mg) P w K mg base N x (al st) f bf A outer s H E).ik (XP (gP (ET P w mg) P w K mg base N x (al st) f bf A outer s H E) fun C _ H'=>E (.ref C.1) C.2 H')) (bw st) t/\t { nx:=fun _ H'=>Q .cJ H',rt:=Q } (start N vs) H):A1 P w K mg base (k+1) x ps sp:=by
 obtain ⟨f,fd,F,hm,hb⟩:=D
 obtain ⟨oc,od,kV,doc,pm,an,bf,ct,An,rfl,lk,lS⟩:=F.ex
 refine⟨f,_,Am lk lS S len fun A outer s H vs Q E hr lX=>?_,hm,F.kp,hb⟩
 obtain ⟨t,h,q⟩:=di f bf A outer s H vs Q E hr lX
 exact⟨t,h.xe fun e s z=>Nc z,q⟩
end
open PySem PySem.Spec PyProof.Rows
section
variable {K:Frag}{H:Hp}{Q:VK}{σ:St}
theorem sI{j:Nat}:lB xs none (some (j:Int))=xs.take j:=by
 unfold lB
 rw [HT.tm,HT.yf,sub_zero,List.drop_zero]
 by_cases h:j<=xs.length
 ·rw [min_eq_left h]
 ·rw [Nat.min_eq_right aaa,aaU aaa,aaU aaa]
theorem Nd{j:Nat}:lB xs (some (j:Int)) none=xs.drop j:=by
 unfold lB
 rw [HT.tm,HT.yf]
 by_cases h:j<=xs.length
 ·rw [min_eq_left h,aaU (by rw [length_drop];lia)]
 ·rw [Nat.min_eq_right aaa,sub_self,take_zero,drop_of_length_le aaa]
theorem Rt{j:Nat}(e:aP K H a xs)(h:∀ p H2,H p=none->aj H H2->H2 p=some (.lst (xs.take j))->Q (.ref p) H2):Ir K (.ref a) none (some (j:Int)) H Q :=
 OM e fun p H2 n s m=>h p H2 n s (by rw [sI] at m;exact m)
theorem A6:∀ (r q:List Int),PyData.eqvAll (r.map PyData.int) (q.map PyData.int)=decide (r=q)
 | [],[]=>rfl
 | [],_::_=>rfl
 | _::_,[]=>rfl
 | x::r,y::q=>by
  have h:=A6 r q
  simp only [map_cons,PyData.eqvAll,h,PyData.eqv]
  by_cases e:x=y
  ·subst e;by_cases e2:r=q <;> simp [e2]
  ·simp [e]
theorem sJ(r q:List Int):PyData.eqv (.tuple (r.map PyData.int)) (.tuple (q.map PyData.int))=decide (r=q):=by
 rw [<- A6 r q]
 simp [PyData.eqv]
theorem A7:∀ (rs qs:List (List Int)),PyData.eqvAll (rs.map fun r=>.tuple (r.map PyData.int)) (qs.map fun r=>.tuple (r.map PyData.int))=decide (rs=qs)
 | [],[]=>rfl
 | [],_::_=>rfl
 | _::_,[]=>rfl
 | x::r,y::q=>by
  have h:=A7 r q
  simp only [map_cons,PyData.eqvAll,h,sJ]
  by_cases e:x=y
  ·subst e;by_cases e2:r=q <;> simp [e2]
  ·simp [e]
theorem Gk(rs qs:List (List Int)):PyData.eqv (.list (rs.map fun r=>.tuple (r.map PyData.int))) (.list (qs.map fun r=>.tuple (r.map PyData.int)))=decide (rs=qs):=by
 rw [<- A7 rs qs]
 simp [PyData.eqv]
theorem A8:∀ r:List Int,PyData.canLayAll0 (r.map PyData.int)=true
 | []=>rfl
 | _::r=>by simp only [map_cons,PyData.canLayAll0,A8 r,PyData.canLay0,Bool.and_self]
theorem EY(r:List Int):PyData.canLay0 (.tuple (r.map PyData.int))=true:=by simp only [PyData.canLay0,A8]
theorem A9:∀ rs:List (List Int),PyData.canLayAll0 (rs.map fun r=>.tuple (r.map PyData.int))=true
 | []=>rfl
 | r::rs=>by simp only [map_cons,PyData.canLayAll0,A9 rs,EY,Bool.and_self]
theorem xP:∀ r:List Int,PyData.depthAll (r.map PyData.int)<=1
 | []=>by simp [PyData.depthAll]
 | _::r=>by
  have:=xP r
  simp only [map_cons,PyData.depthAll,PyData.depth]
  lia
theorem Ba(r:List Int):PyData.depth (.tuple (r.map PyData.int))<=2:=by
 have:=xP r
 simp only [PyData.depth]
 lia
theorem xQ:∀ rs:List (List Int),PyData.depthAll (rs.map fun r=>.tuple (r.map PyData.int))<=2
 | []=>by simp [PyData.depthAll]
 | r::rs=>by
  have:=xQ rs
  have:=Ba r
  simp only [map_cons,PyData.depthAll]
  lia
theorem fP(r:List Int):SeqAt.shaped (.tuple (r.map PyData.int))=true:=by
 unfold SeqAt.shaped
 rw [EY,aan (aag (Ba r) aa8)];rfl
theorem qq(rs:List (List Int)):SeqAt.shaped (.list (rs.map fun r=>.tuple (r.map PyData.int)))=true:=by
 unfold SeqAt.shaped
 have h:PyData.canLay0 (.list (rs.map fun r=>PyData.tuple (r.map PyData.int)))=true:=by simp only [PyData.canLay0,A9]
 have d:PyData.depth (.list (rs.map fun r=>PyData.tuple (r.map PyData.int)))<=64:=by
  have:=xQ rs
  simp only [PyData.depth]
  lia
 rw [h,aan d];rfl
end
end L2
namespace L2
open PySem PySem.Spec PyProof.Rows PySem.W
abbrev VE(A:Around):Around:={ A with handled:=none }
abbrev Bb(k:Nat)(A:Around):Prop:=bK k (VE A)
abbrev VF(CX:CB)(P:Program)(w:World)(K:Frag)(mg:Str->Option Value)(base:Heap)(N:List Str)(qual:Str)(scope:Scope)(f:Addr)(cd:Value)(A:Around)(outer:List Env)(s:Shared)(H:Hp)(E:XK):Cx :=
 { gP CX P w K mg base N qual scope f cd A outer s H E with calm:=false }
theorem rE.VE{P:Program}{w:World}{K:Frag}{mg:Str->Option Value}{base:Heap}{A:Around}{outer:List Env}{s:Shared}{H:Hp}(e:rE P w K mg base A outer s H):rE P w K mg base (VE A) outer s H :=
 ⟨e.frames,e.mod,e.bs,e.Ci,e.iE,e.Ft,e.bh,e.bare⟩
theorem C9{CX:CB}{P:Program}{w:World}{K:Frag}{mg:Str->Option Value}{base:Heap}{N ps:List Str}{qual:Str}{scope:Scope}{f:Addr}{cd:Value}{A:Around}{outer:List Env}{s s1:Shared}{H:Hp}{E:XK}{us:List Value}{vs:List V}
  (S:ao N ps scope) (e0:rE P w K mg base A outer s H) (hl:vs.length=ps.length) (r:Vals vs us)
  (x:InCallC s s.heap.objs.size (bindL (envOfC qual scope s.heap.objs.size f cd).kindOf (ps.zip us) fun _=>none) (cellsFrom (s.heap.objs.size+1) scope.names []) (bindC (envOfC qual scope s.heap.objs.size f cd).kindOf (ps.zip us) fun _=>none) s1) :
  Inv (VF CX P w K mg base N qual scope f cd A outer s H E) [] (start N vs) H s1:=by
 have I:=xt (CX:=CX) (E:=E) (A:=VE A) S rfl e0.VE hl r x
 exact⟨⟨I.ok.mod,I.ok.kind,I.ok.glob,I.ok.blt,I.ok.above,I.ok.inj,I.ok.has,I.ok.LH,(fun z=>nomatch z),Around.frames_deeper e0.frames,I.ok.LZ,I.ok.Po,I.ok.bs,I.ok.Ci,I.ok.wc,I.ok.ya,I.ok.iE,I.ok.Ft⟩,I.os,I.bare,I.base,I.loc,I.cell,I.free,I.dI,I.pin,I.bh,I.len⟩
theorem bK.toH{j k:Nat}(r:bK k A)(hjk:j<=k):Bb j (A.mark h):=⟨rfl,(r.mono hjk).dp,(r.mono hjk).un⟩
structure OR(hd:Around->Hp->Prop)(P:Program)(w:World)(K:Frag)(mg:Str->Option Value)(base:Heap)(CX:CB)(k:Nat)(f:Addr)(fd:FuncData)(ps:List Str)(sp:Sp):Prop where
 len:∀ vs H Q E,sp vs H Q E->vs.length=ps.length
 run:∀ (A:Around) (outer:List Env) (s:Shared) (H:Hp) (args:Args) (us:List Value) (vs:List V) (Q:VK) (E:XK),hd A H->Bb k A->rE P w K mg base A outer s H->BindsTo s fd args (ps.zip us)->Vals vs us->sp vs H Q E ->
  codeAny (model P w) A (.call (.ref f) args) (CR CX outer P w H s Q E) s
theorem Ru{hd:Around->Hp->Prop}{CX:CB}{P:Program}{w:World}{K:Frag}{mg:Str->Option Value}{base:Heap}{k:Nat}{f:Addr}{name qual:Str}{params:Arguments}{body:List Stmt}{scope:Scope}{dV kV doc pm bf ct oc:Value}{an od:Option Addr}
  {An:Array (Option Value)} {N ps:List Str} {sp:Sp} (lk:K.lookup f=some ⟨oc,od,.func (fnOf name qual params body scope dV kV doc pm an bf ct),An⟩) (lS:codeIn K bf qual=true) (S:ao N ps scope)
  (len:∀ vs H Q E,sp vs H Q E->vs.length=ps.length)
  (di:∀ (A:Around) (outer:List Env) (s:Shared) (H:Hp) (vs:List V) (Q:VK) (E:XK),hd A H->Bb k (A.deeper (envOfC qual scope s.heap.objs.size f bf))->sp vs H Q E ->
   ∃ t,oB (VF CX P w K mg base N qual scope f bf A outer s H E) body t/\t { nx:=fun _ H'=>Q .cJ H',rt:=Q } (start N vs) H) :
  OR hd P w K mg base CX (k+1) f (fnOf name qual params body scope dV kV doc pm an bf ct) ps sp:=by
 refine⟨len,fun A outer s H args us vs Q E Y7 hr e0 hb r lX=>?_⟩
 have hl:=len _ _ _ _ lX
 have inn:K.In s.heap:=e0.mod.LY.keeps fun b o e=>(e0.bs b o e).1
 have lim:s.heap.NoLimit:=e0.mod.nolimit.keeps fun b o e=>(e0.bs b o e).1
 have kinds:∀ y∈ps.zip us,scope.names.lookup y.1=some .local\/(scope.names.lookup y.1=some .cell/\((cellsFrom (s.heap.objs.size+1) scope.names []).lookup y.1).isSome=true):=fun ⟨n,v⟩ hy =>
  (S.par n (of_mem_zip hy).1).imp id fun q=>⟨q,cellsFrom_some _ _ _ (.inl q)⟩
 have dep:A.depth<recursionLimit:=hr.depth
 refine codeAny_call_function dep (inn _ _ lk) rfl S.co S.gen rfl (codeRec_of inn lS) (hb _ _ _ _ (wpAny_newFunctionEnv_cells S.kind kinds fun env he s1 x=>?_))
 subst he
 obtain ⟨t,ht,hq⟩:=di A outer s H vs Q E Y7 (hr.deeper _) lX
 have I:Inv (VF CX P w K mg base N qual scope f bf A outer s H E) [] (start N vs) H s1:=C9 S e0 hl r x
 refine⟨lim.keeps x.toInCall.keep,codeAny_func (aaq (ht [] s1 (start N vs) H _ I hq) (fun fl s' hs=>?_) fun e s' hs=>hs)⟩
 have fin:∀ {σ':St} {H':Hp} {v:V} {u:Value},Inv (VF CX P w K mg base N qual scope f bf A outer s H E) [] σ' H' s'->RelV v u->Q v H'->CE outer P w H s Q u s':=fun J rv q=>⟨_,_,J.os,J.bare,J.base,J.bh,rv,q⟩
 cases fl with
 | ret u =>
  obtain ⟨v,σ',H',J,rv,q⟩:=hs
  exact fin J rv q
 | next =>
  obtain ⟨σ',H',J,q⟩:=hs
  exact fin (v:=V.cJ) (u:=Value.none) J rfl q
 | brk=>exact hs.elim fun _ z=>z.elim fun _ z=>z.2.elim
 | cont=>exact hs.elim fun _ z=>z.elim fun _ z=>z.2.elim
open PySem PySem.Spec PyProof.Rows
section
variable {κ:Type} [DecidableEq κ]
def tY(fv:List (κ×V))(k:κ):Option V:=(fv.find? fun kv=>decide (kv.1=k)).map (·.2)
theorem J0{p:κ×V}{r:List (κ×V)}{k:κ}(e:p.1=k):tY (p::r) k=some p.2:=by simp [tY,find?_cons,e]
theorem J4{p:κ×V}{r:List (κ×V)}{k:κ}(e:¬ p.1=k):tY (p::r) k=tY r k:=by simp [tY,find?_cons,e]
theorem lQ.Gm{o:Option V}(r:lQ o u):o.isSome=u.isSome:=by
 cases o with
 | none=>cases u with
  | none=>rfl
  | some _=>exact (show False from r).elim
 | some _=>cases u with
  | none=>exact (show False from r).elim
  | some _=>rfl
theorem KV.val{fv:List (κ×V)}{vs:List (κ×Value)}(r:KV fv vs)(k:κ):lQ (tY fv k) (valueAt vs k):=by
 unfold KV at r
 induction r with
 | nil=>exact True.intro
 | @cons p q ps qs h t ih =>
  obtain ⟨h1,h2⟩:=h
  by_cases e:p.1=k
  ·have e':q.1=k:=h1.symm.trans e
   have b:valueAt (q::qs) k=some q.2:=by simp [valueAt,find?_cons,e']
   rw [J0 e,b];exact h2
  ·have e':¬ q.1=k:=fun z=>e (h1.trans z)
   have b:valueAt (q::qs) k=valueAt qs k:=by simp [valueAt,find?_cons,e']
   rw [J4 e,b];exact ih
end
theorem OS(r:RelV (kV k) u):(kl P w).is k u=true:=by
 cases k with
 | inl i=>obtain ⟨t,e⟩:=(show ∃ t,u=Value.int i t from r);subst e;exact Af P w i t
 | inr x=>obtain ⟨t,e⟩:=(show ∃ t,u=Value.str x t from r);subst e;exact Ag P w x t
section
variable {X:Cx}{pins:List (Addr×Obj)}{σ:St}{H:Hp}{s:Shared}{a:Addr}{y v:V}{u r:Value}{o:Option V}{A:Around}{E:Value->Shared->Prop}
theorem Inv.big(I:Inv X pins σ H s):sysModules<s.heap.objs.size:=by
 have h:mainGlobals<s.heap.objs.size:=(I.mod.glob.keeps I.bk).lt
 exact lt_trans aa8 h
end
theorem J5(h:Heap)(hb:sysModules<h.objs.size):cv P w H (h.push { cls:=.type "dict",data:=.dict #[] }) h.objs.size (.dT []) :=
 ⟨aa0 _,beq_eq_false_iff_ne.mpr (Ne.symm (aa1 hb)),[],.nil,_,#[],0,aaf _ rfl,⟨rfl,rfl,rfl⟩,rfl,rfl,List.nodup_nil⟩
def J6:TE:=fun _ H Q=>∀ p,H p=none->Q (.ref p) (upd H p (.dT []))
section
variable {X:Cx}{pos:Pos}
theorem Bc:PE X (.Dict [] [] pos) J6:=fun pins s σ H Q I h =>
 wpAny_Dict_empty ⟨.ref s.heap.objs.size,_,I.laid (a:=s.heap.objs.size) (o:=.dT []) (t':=s.toks) (fun _ _ q=>aab _ q) (aah _) (J5 s.heap I.big),rfl,h _ (I.bh.fresh (aah _))⟩
end
section
variable {K:Frag}{H H':Hp}
theorem lL:∀ {zs:List (List Int×V)},(∀ p∈zs,∃ a,p.2=.ref a/\aC K H a (p.1.map V.int))->az K H (zs.map Prod.snd) (zs.map Prod.fst)
 | [],_=>.nil
 | p::zs,h=>by
  obtain ⟨a,e,q⟩:=h p (mem_cons_self ..)
  rw [map_cons,map_cons,e]
  exact .cons q (lL fun z hz=>h z (aaB _ hz))
theorem az.VG:∀ {xs:List V} {rs:List (List Int)},az K H xs rs->∀ p∈rs.zip xs,∃ a,p.2=.ref a/\aC K H a (p.1.map V.int)
 | _,_,.nil=>fun p hp=>by cases hp
 | _,_,.cons h t=>fun p hp=>by
  rcases aaC.mp hp with rfl|hp
  ·exact⟨_,rfl,h⟩
  ·exact t.VG p hp
theorem Bd(f:List Int->Int)(hr:az K H xs rs)(so:dZ false (rs.map f) xs ys)(s:aj H H'):∃ qs,az K H' ys qs/\qs.Perm rs/\qs.Pairwise fun a b=>f a<=f b:=by
 obtain ⟨ps,hp,rfl,hw⟩:=so
 have ez:(rs.map f).zip xs=(rs.zip xs).map fun p=>(f p.1,p.2):=by rw [List.zip_map_left];rfl
 obtain ⟨zs,pz,rfl⟩:=eL.AB hp ez
 refine⟨zs.map Prod.fst,?_,?_,?_⟩
 ·rw [aaS]
  exact (lL (zs:=zs) fun p h=>hr.VG p (pz.mem_iff.mp h)).same s
 ·have:=pz.map Prod.fst
  rw [List.map_fst_zip (by rw [hr.length];exact aah _)] at this
  exact this
 ·rw [pairwise_map] at hw ⊢
  exact hw.imp fun h=>h
end
def rk(r:List Int):List Key:=r.map Sum.inl
section
variable {H:Hp}{σ:St}{D:Ends}{Q:VK}
theorem Nf(h:∀ p H2,H p=none->aj H H2->H2 p=some (.dT [])->Q (.ref p) H2):J6 σ H Q:=fun p hp=>h p _ hp (aj.aZ hp) aw
end
inductive aY(K:Frag)(H:Hp):List V->List (List Int×Int)->Prop where
 | nil:aY K H [] []
 | cons {a w:Addr} {r:List Int} {m:Int} {xs:List V} {ks:List (List Int×Int)} (h:aC K H a [.ref w,.int m]) (hw:aC K H w (r.map V.int)) (t:aY K H xs ks):aY K H (.ref a::xs) ((r,m)::ks)
namespace aY
variable {K:Frag}{H H':Hp}
theorem length:∀ {xs:List V} {ks:List (List Int×Int)},aY K H xs ks->ks.length=xs.length
 | _,_,.nil=>rfl
 | _,_,.cons _ _ t=>by rw [length_cons,length_cons,t.length]
theorem get:∀ {xs:List V} {ks:List (List Int×Int)} {i:Nat} {x:V},aY K H xs ks->xs[i]?=some x->∃ a w k,x=.ref a/\aC K H a [.ref w,.int k.2]/\aC K H w (k.1.map V.int)/\ks[i]?=some k
 | _,_,_,_,.nil,h=>by simp at h
 | _,_,0,_,.cons (a:=a) (w:=w) (r:=r) (m:=m) h hw _,e=>by
  simp at e
  exact⟨a,w,(r,m),e.symm,h,hw,rfl⟩
 | _,_,i+1,_,.cons _ _ t,e=>by
  obtain ⟨a,w,k,h1,h2,h3,h4⟩:=get (i:=i) t (by simpa using e)
  exact⟨a,w,k,h1,h2,h3,by simpa using h4⟩
theorem same:∀ {xs:List V} {ks:List (List Int×Int)},aY K H xs ks->aj H H'->aY K H' xs ks
 | _,_,.nil,_=>.nil
 | _,_,.cons h hw t,s=>.cons (s.at h) (s.at hw) (t.same s)
theorem append:∀ {xs ys:List V} {ks js:List (List Int×Int)},aY K H xs ks->aY K H ys js->aY K H (xs++ys) (ks++js)
 | _,_,_,_,.nil,u=>u
 | _,_,_,_,.cons h hw t,u=>.cons h hw (t.append u)
theorem snoc{m:Int}(t:aY K H xs ks)(h:aC K H a [.ref w,.int m])(hw:aC K H w (r.map V.int)):aY K H (xs++[.ref a]) (ks++[(r,m)]):=t.append (.cons h hw .nil)
theorem off:∀ {xs:List V} {ks:List (List Int×Int)},aY K H xs ks->H l=some (.lst ys)->aY K (upd H l (.lst zs)) xs ks
 | _,_,.nil,_=>.nil
 | _,_,.cons h hw t,e=>.cons (fm h e) (fm hw e) (t.off e)
end aY
theorem Gn{α β:Type}(ks:List α)(d:α)(g:α->β):(List.range ks.length).map (fun i=>g (ks.getD i d))=ks.map g:=by
 apply ext_getElem
 ·simp
 ·intro i h1 h2
  have h:i<ks.length:=by simpa using h1
  simp [List.getD,aat h]
theorem dm{K:Frag}{a:Addr}{xs:List V}{H1:Hp}{ix:List (Option Nat)}{σ:St}{te:TE}{Q:VK}(fr:St)(f:Nat->V)(gn:pick ix σ=none::fr)(ha:aP K H1 a xs)(hn:xs.length<=1000000)
  (step:∀ (i:Nat) x H' (Qc:VK),xs[i]?=some x->aj H1 H'->(∀ H5,aj H' H5->Qc (f i) H5)->te (some x::fr) H' Qc)
  (hQ:∀ l H',H1 l=none->aj H1 H'->H' l=some (.lst ((List.range xs.length).map f))->Q (.ref l) H'):aV ix (bu 0) (fun _ H Q=>Q true H) te σ Q (LJ K a) H1:=by
 refine jz fr xs.length f gn hn (fun H' s=>⟨xs,s.seq ha,aah _⟩) (fun i H' hi s=>⟨xs,xs[i],s.seq ha,aat hi⟩) (fun i x H' H2 Qc hi s hy kc=>?_) hQ
 obtain ⟨rfl,e⟩:=hy
 exact step i x _ Qc (e xs (s.seq ha)) s kc
end L2
namespace L2
open PySem PySem.Spec PyProof.Rows
section
variable {X:Cx}{pins:List (Addr×Obj)}{σ:St}{H:Hp}{s:Shared}
theorem Dc{a kS f:Addr}{e1:Nat}{b:Bool}{vs:List Value}{xs:List V}{kz:List Int}{P:PySem.Fin->Shared->Prop}{E:Value->Shared->Prop}
  (KC:∀ (fz:List (Addr×Obj)) (H':Hp) (s':Shared) (i:Nat) (x:V) (u:Value) (n:Int),(∀ p∈pins,p∈fz)->xs[i]?=some x->kz[i]?=some n->aj H H'->RelV x u->Inv X fz σ H' s'->wpAny (model X.prog X.w) X.A.in1.in1 (call (.ref f) [u]) (EP X fz σ fun v Ng=>v=.int n/\aj H' Ng) (fun _ _=>False) s')
  (I:Inv X ((pins++[(a,seqObj "list" #[] e1)])++[(kS,seqObj "list" #[] 0)]) σ H s) (h0:X.s₀.heap.get? kS=none) (hc:∀ x c,X.env.cells.lookup x=some c->c≠kS) (hp:∀ p∈X.pn++(pins++[(a,seqObj "list" #[] e1)]),p.1≠kS)
  (hv:Vals xs vs) (hlen:kz.length=vs.length) (LO:vs.length<64)
  (done:∀ H' s' kA e,Inv X ((pins++[(a,seqObj "list" #[] e1)])++[(kS,seqObj "list" kA e)]) σ H' s'->aj H H'->IntsAre kA.toList kz->wpAny (model X.prog X.w) X.A.in1.in1 (ksk_end a b vs.toArray e1 (.ref kS) kA) P E s') :
  wpAny (model X.prog X.w) X.A.in1.in1 (ksk_rest a (.ref f) b vs.toArray e1 (.ref kS)) P E s:=by
 have Zo:xs.length=vs.length:=hv.length
 let Wk:Nat->Shared->Prop:=fun i s'=>∃ H' kA e,Inv X ((pins++[(a,seqObj "list" #[] e1)])++[(kS,seqObj "list" kA e)]) σ H' s'/\aj H H'/\IntsAre kA.toList (kz.take i)
 have start:Wk 0 s:=⟨H,#[],0,I,aj.refl _,by rw [take_zero];exact .nil⟩
 have last:∀ s',Wk (0+vs.length) s'->wpAny (model X.prog X.w) X.A.in1.in1 (do let keys <- Builtin.List.listItems (.ref kS);ksk_end a b vs.toArray e1 (.ref kS) keys) P E s':=by
  rintro s' ⟨H',kA,e,I',sm,hk⟩
  rw [zero_add,aaU (le_of_eq hlen)] at hk
  exact aac (listItems_at (EU I') rfl (done H' s' kA e I' sm hk))
 rw [ksk_rest]
 refine aac (wpAny_rule ?_)
 rw [List.forIn_toArray]
 refine aac (ksk_fold Wk vs 0 s start (fun j u s' hu w=>?_) last)
 rw [zero_add] at w ⊢
 obtain ⟨H',kA,e,I',sm,hk⟩:=w
 have hj:=(aad.mp hu).1
 have Zp:kA.size+1<=64:=by
  have q:=hk.length
  rw [Array.length_toList,aaO] at q
  lia
 obtain ⟨u',eu,ru⟩:=hv.get (aat (Zo.symm ▸ hj:j<xs.length))
 cases hu.symm.trans eu
 have hn:kz[j]?=some (kz[j]'(hlen.symm ▸ hj)):=aat _
 refine aac (wpAny_attempt (aaq (KC _ H' s' j _ _ _ (fun p hp=>aav _ (aav _ hp)) (aat _) hn sm ru I') ?_ fun _ _ no=>no.elim))
 rintro _ s2 ⟨y,H2,I2,ry,rfl,OT⟩
 obtain ⟨t2,rfl⟩:=ry
 have at2:=EU I2
 refine aac (listUpdate_at at2 rfl ?_ (by rw [sizeLine_eq];lia) (by rw [Array.size_push,sizeLine_eq];lia))
 exact aap ⟨rfl,H2,_,_,I2.wrote h0 hc hp (Heap.SameBut.update _ _ _) (get?_update_seq at2 _) (fun _ z=>nomatch z),sm.trans OT,Zc hk hn⟩
theorem Dd{n:Nat}{b:Bool}(KC:∀ (fz:List (Addr×Obj)) (H':Hp) (s':Shared) (i:Nat) (x:V) (u:Value) (n:Int),(∀ p∈pins,p∈fz)->xs[i]?=some x->kz[i]?=some n->aj H H'->RelV x u->Inv X fz σ H' s'->wpAny (model X.prog X.w) X.A.in1.in1 (call (.ref f) [u]) (EP X fz σ fun v Ng=>v=.int n/\aj H' Ng) (fun _ _=>False) s')(I:Inv X pins σ H s)(ho:s.heap.get? a=some (seqObj "list" vs.toArray n))(hfp:lg X pins H a)(Qw:X.s₀.heap.objs.size<=a)(hv:Vals xs vs)(hlen:kz.length=vs.length)(LO:vs.length<64)(hP:∀ s' H' ys,aj H H'->H' a=none->Inv X pins σ (upd H' a (.lst ys)) s'->dZ b kz xs ys->P (.done (.ret .none)) s'):
  wpAny (model X.prog X.w) X.A.in1.in1 (ksk_tree a (.ref f) b) P E s:=by
 obtain ⟨g0,g1,g2,_,g4,g5⟩:=hfp
 have a0:X.s₀.heap.get? a=none:=Heap.get?_none_of_le Qw
 have s1:=Heap.SameBut.update s.heap a (Obj.mapSeq fun _=>(#[]:Array Value))
 obtain ⟨e1,Tg⟩:∃ e1,(s.heap.update a (Obj.mapSeq fun _=>(#[]:Array Value))).get? a=some (seqObj "list" #[] e1):=⟨_,get?_update_seq ho fun _=>#[]⟩
 have I0:Inv X (pins++[(a,seqObj "list" vs.toArray n)]) σ H s:=I.iF fun p hp=>(aax.mp hp).elim (fun z=>I.pin p (aau _ z)) fun z=>by
  rw [aaw.mp z]
  exact⟨ho,g0,g1,g2,fun v z=>nomatch z⟩
 have I1:Inv X (pins++[(a,seqObj "list" #[] e1)]) σ H { s with heap:=s.heap.update a (Obj.mapSeq fun _=>(#[]:Array Value)),toks:=s.toks }:=I0.wrote a0 g4 g5 s1 Tg fun v z=>nomatch z
 unfold ksk_tree
 refine aac (listItems_at ho rfl ?_)
 refine aac (listUpdate_at ho rfl ?_ (by rw [aaP,sizeLine_eq];lia) (aa0 _))
 refine aac (seqEpoch_at Tg rfl ?_)
 refine aac (wpAny_newTuple ?_ (by show vs.length<=_;rw [sizeLine_eq];lia))
 refine aac (wpAny_newList ?_ (aa0 _))
 refine wpAny_holding ?_
 generalize hh1:s.heap.update a (Obj.mapSeq fun _=>(#[]:Array Value))=h1 at I1
 have lk:h1.objs.size<=(h1.push (seqObj "tuple" vs.toArray 0)).objs.size:=by rw [size_push'];exact Nat.le_succ _
 have I2:Inv X (pins++[(a,seqObj "list" #[] e1)]) σ H { s with heap:=(h1.push (seqObj "tuple" vs.toArray 0)).push (seqObj "list" #[] 0),toks:=s.toks } :=
  I1.kept (t':=s.toks) fun b o q=>aab _ (aab _ q)
 have hkn:H (h1.push (seqObj "tuple" vs.toArray 0)).objs.size=none:=I1.bh.fresh lk
 obtain ⟨_,q1,q2,_,q4,q5⟩:lg X (pins++[(a,seqObj "list" #[] e1)]) H (h1.push (seqObj "tuple" vs.toArray 0)).objs.size:=I1.we lk hkn
 have k0:X.s₀.heap.get? (h1.push (seqObj "tuple" vs.toArray 0)).objs.size=none:=Heap.get?_none_of_le (aag I1.sz lk)
 have I3:Inv X ((pins++[(a,seqObj "list" #[] e1)])++[((h1.push (seqObj "tuple" vs.toArray 0)).objs.size,seqObj "list" #[] 0)]) σ H { s with heap:=(h1.push (seqObj "tuple" vs.toArray 0)).push (seqObj "list" #[] 0),toks:=s.toks } :=
  I2.iF fun p hp=>(aax.mp hp).elim (fun z=>I2.pin p (aau _ z)) fun z=>by
   rw [aaw.mp z]
   exact⟨aaf _ rfl,hkn,q1,q2,fun v z=>nomatch z⟩
 refine Dc KC I3 k0 q4 q5 hv hlen LO fun H' s' kA e I' sm hk=>?_
 obtain ⟨_,an,_⟩:=I'.pin (a,seqObj "list" #[] e1) (aau _ (aav _ (aau _ (aaw.mpr rfl))))
 exact JT I' ⟨a0,g4,g5⟩ ⟨k0,q4,q5⟩ hk hv hlen LO fun h' tk ys J so=>hP _ H' ys sm an J so
theorem wx(KC:∀ (fz:List (Addr×Obj)) (H':Hp) (s':Shared) (i:Nat) (x:V) (u:Value) (n:Int),(∀ p∈pins,p∈fz)->xs[i]?=some x->kz[i]?=some n->aj H H'->RelV x u->Inv X fz σ H' s'->wpAny (model X.prog X.w) X.A.in1.in1 (call (.ref f) [u]) (EP X fz σ fun v Ng=>v=.int n/\aj H' Ng) (fun _ _=>False) s')(I:Inv X pins σ H s)(hs:aP X.K H l xs)(hlen:kz.length=xs.length)(LO:xs.length<64)(hQ:∀ p H' ys,aj H H'->H' p=some (.lst ys)->dZ false kz xs ys->Q (.ref p) H'):
  wpAny (model X.prog X.w) X.A (call (.builtin "sorted") [.ref l] [(Str.ofString "key",.ref f)]) (EP X pins σ Q) X.xe s:=by
 obtain ⟨vs,hv,pl,_⟩:=I.list hs
 have hl:s.heap.IsList l vs.toArray:=by
  obtain ⟨o,n,h1,h2,h3⟩:=pl
  exact⟨o,h1,h2,n,h3.2⟩
 have hvl:vs.length<64:=by rw [<- hv.length];exact LO
 have Zp:vs.length<=sizeLine:=by rw [sizeLine_eq];lia
 refine call_function_entry_kw kind_sorted plain_sorted entry_sorted (ksk_s1 _ _) ?_
 rw [Builtin.«sorted»]
 refine aac (m:=checkCount "sorted" 1 1 _) (aap (aac (collect_list hl ?_ Zp)))
 generalize hc:(s.heap.push (seqObj "list" #[] 0)).update s.heap.objs.size (Obj.mapSeq (·++vs.toArray))=yU
 have ecol:yU.objs.size=s.heap.objs.size+1:=by rw [<- hc,Heap.size_update,size_push']
 have Zq:∀ b o,s.heap.get? b=some o->yU.get? b=some o:=fun b o q=>by
  rw [<- hc,(Heap.SameBut.update _ _ _).2 b (aa1 (aae q))]
  exact aab _ q
 have low:s.heap.objs.size<=yU.objs.size:=by lia
 have I2:Inv X pins σ H { s with heap:=yU.push (seqObj "list" vs.toArray 0),toks:=s.toks }:=I.kept fun b o q=>aab _ (Zq b o q)
 have own:(yU.push (seqObj "list" vs.toArray 0)).get? yU.objs.size=some (seqObj "list" vs.toArray 0):=aaf _ rfl
 refine aac (wpAny_newList ?_ Zp)
 refine aac (wpAny_holding (wpAny_call_entry_kw (s:={ s with heap:=yU.push (seqObj "list" vs.toArray 0) }) slot_list_sort ⟨_,own,rfl⟩ entry_list_sort ?_ (ksk_l1 _ _)))
 show wpAny (model X.prog X.w) X.A.in1.in1 (Builtin.«list.sort» ⟨[.ref yU.objs.size],[(Str.ofString "key",.ref f)]⟩) _ _ _
 rw [ksk_t1]
 refine Dd KC I2 own (I.we low (I.bh.fresh low)) (aag I.sz low) hv (hlen.trans hv.length) hvl fun s' H' ys sm hn J so=>⟨_,rfl,?_⟩
 exact aap ⟨_,rfl,.ref yU.objs.size,_,J,rfl,hQ _ _ ys (sm.trans (aj.aZ hn)) aw so⟩
end
end L2
namespace L2
open PySem PySem.Spec PyProof.Rows PySem.W
abbrev EZ(X:Cx)(A:Around)(N:List Str)(qual:Str)(scope:Scope)(f:Addr)(cd:Value)(s:Shared)(H:Hp):Cx :=
 { X with A:=A.deeper (envX qual scope s.heap.objs.size f cd (dS X.env.cells scope.names [])),N:=N,s₀:=s,H₀:=H,env:=envX qual scope s.heap.objs.size f cd (dS X.env.cells scope.names []),outer:=X.stack,stack:=envX qual scope s.heap.objs.size f cd (dS X.env.cells scope.names [])::X.stack,ex:=[],fn:=fun _=>false,calm:=true,pn:=[],xe:=fun _ _=>False }
section
variable {X:Cx}{pins:List (Addr×Obj)}{σ:St}{H:Hp}{s:Shared}
theorem J7(I:Inv X pins σ H s)(hd:A.handled=none)(Zr:A.frames=some X.stack)(VH:A.depth<recursionLimit)(ho:s.heap.get? f=some (kla_obj "<lambda>" qual params body scope (dS X.env.cells scope.names []) pm c' yV))(lS:s.heap.CodeRec (.ref c') qual)(tZ:bindArgs (kla_fn "<lambda>" qual params body scope (dS X.env.cells scope.names []) pm (.ref c') yV) ⟨[u],[]⟩=pure [(p,u)])(oW:scope.names.lookup p=some .local)(VI:scope.isCoroutine=false)(J8:scope.isGenerator=false)(hk:scope.kind=.function)(dJ:∀ y∈scope.names,y.2≠.cell)(jt:(scope.names.all fun y=>!(y.2 == NameKind.free) || (X.env.cells.lookup y.1).isSome)=true)(Ar:jr X scope fns ixs)(he:PE (EZ X A (p::fns) qual scope f (.ref c') s H) body te)(r:RelV x u)(h:te (some x::pick ixs σ) H Q):
  wpAny (model X.prog X.w) A (call (.ref f) [u]) (EP X pins σ Q) (fun _ _=>False) s:=by
 have wt:∀ y∈scope.names,y.2=.free->(X.env.cells.lookup y.1).isSome=true:=fun y hy e=>by
  have z:=all_eq_true.mp jt y hy
  rw [e] at z
  simpa using z
 have iq:∀ x c,(dS X.env.cells scope.names []).lookup x=some c->X.env.cells.lookup x=some c:=tD (fun x c q=>by simp at q)
 have As:∀ x,scope.names.lookup x=some .free->∃ c,(dS X.env.cells scope.names []).lookup x=some c:=fun x hx=>by
  have hm:=PySem.mem_of_lookup hx
  exact aao.mp (tF (.inr ⟨hm,wt _ hm rfl⟩))
 refine wpAny_call (codeAny_mono (show codeAny _ _ _ (CR CJ X.stack X.prog X.w H s Q E0) s from ?_) fun r s' hq=>?_)
 ·refine kla_callFunE VH ho rfl VI J8 rfl lS ?_
  rw [tZ]
  refine aap (wpAny_newFunctionEnv dJ (fun y hy=>by rw [aaw.mp hy];exact oW) (fun h₁ Tl hsb=>⟨I.nolimit.fresh _ hsb,?_⟩) hk)
  show codeAny _ _ (.expr body (envX qual scope s.heap.objs.size f (.ref c') (dS X.env.cells scope.names []))) _ _
  have old:∀ b o,s.heap.get? b=some o->h₁.get? b=some o:=fun b o e=>hsb.extBut b o (aa1 (aae e)) (aab _ e)
  have J:Inv (EZ X A (p::fns) qual scope f (.ref c') s H) [] (some x::pick ixs σ) H { s with heap:=h₁,toks:=s.toks+[(p,u)].length }:=by
   refine⟨⟨I.ok.mod,hk,rfl,rfl,aah _,fun x y c q1 q2=>I.ok.inj x y c (iq x c q1) (iq y c q2),fun x hx=>?_,fun x c hf _=>absurd hf Bool.false_ne_true,fun _=>hd,Around.frames_deeper Zr,.inr ⟨rfl,rfl⟩,fun b hb=>(nomatch hb),I.bs,aag I.ok.Ci I.sz,fun b _ _ hb=>(nomatch hb),fun b hb=>(nomatch hb),I.stack,I.km⟩,
    rfl,I.bare,Un.kept old,⟨_,Tl,fun i y v h1 h2 h3=>?_⟩,fun x c q=>?_,I.bh.fresh (aah _),fun x c q=>I.dI x c (iq x c q),fun p hp=>(nomatch hp),I.bh.kept old,?_⟩
   ·rcases hx with hx|hx
    ·exact absurd rfl (dJ _ (PySem.mem_of_lookup hx))
    ·exact As x hx
   ·match i with
    | 0 =>
     have e1:p=y:=by simpa using h1
     have e2:x=v:=by simpa using h2
     subst e1
     subst e2
     exact⟨u,r,.inl ⟨oW,by simp⟩⟩
    | i+1 =>
     obtain ⟨j,e1,e2⟩:=Ap (show (pick ixs σ)[i]?=some (some v) by simpa using h2)
     obtain ⟨a1,a2,a3,a4⟩:=Ar.get (show fns[i]?=some y by simpa using h1) e1
     obtain ⟨mX,hnX,Yr⟩:=I.loc
     obtain ⟨u',ru,l⟩:=Yr j y v a1 e2 a2
     refine⟨u',ru,?_⟩
     rcases l with ⟨l1,_⟩|⟨_,c,lc,z⟩
     ·have Ys:X.env.scope.names.lookup y=some .local:=l1
      rw [Ys] at a3
      exact absurd a3 aa8
     ·obtain ⟨c',LI⟩:=As y a4
      have ec:=iq y c' LI
      rw [lc] at ec
      have Yt:c=c':=aaj ec
      subst Yt
      exact .inr ⟨.inr a4,c,LI,z.keeps old⟩
   ·obtain ⟨v,z⟩:=I.cell x c (iq x c q)
    exact⟨v,z.keeps old⟩
   ·show (some x::pick ixs σ).length=(p::fns).length
    unfold pick
    rw [length_cons,aaz,length_cons,Ar.len]
  refine kla_codeExpr (aaq (he [] _ _ H Q J h) (fun v s' hv=>?_) fun _ _ no=>no.elim)
  obtain ⟨y,H',J',rv,q⟩:=hv
  exact⟨y,H',J'.os,J'.bare,J'.base,J'.bh,rv,q⟩
 ·cases r with
  | error e=>exact hq
  | ok fl =>
   cases fl with
   | ret u=>exact I.after hq
   | next=>exact False.elim hq
   | brk=>exact False.elim hq
   | cont=>exact False.elim hq
end
end L2
namespace L2
open PySem PySem.Spec PyProof.Rows PySem.W
def aU(P:Addr)(H H':Hp):Prop:=∀ b o,b≠P->H b=some o->H' b=some o
def qr(c:Addr)(q:Str):HO:=.ext fun h=>h.CodeRec (.ref c) q
def eB(P:Addr)(lp:Pos)(q:Str)(H:Hp):Prop:=∃ ps:Array Value,H P=some (.sR ps)/\TriplesOk ps.toList/\(codeAmong lp ps.toList=none\/∃ c,codeAmong lp ps.toList=some (.ref c)/\H c=some (qr c q))
theorem aU.trans(a:aU P H H1)(b:aU P H1 H2):aU P H H2:=fun x o n e=>b x o n (a x o n e)
theorem aU.of(a:aj H H1):aU P H H1:=fun x o _ e=>a x o e
theorem eB.same(t:eB P lp q H)(s:aj H H'):eB P lp q H':=by
 obtain ⟨ps,h1,h2,h3⟩:=t
 refine⟨ps,s _ _ h1,h2,h3.imp id fun ⟨c,e,z⟩=>⟨c,e,s _ _ z⟩⟩
def yW(f c:Addr)(qual:Str)(params:Arguments)(body:Expr)(scope:Scope)(cl:List (Str×Addr)):HO :=
 .ext fun h=>∃ pm yV,h.get? f=some (kla_obj "<lambda>" qual params body scope cl pm c yV)
section
variable {X:Cx}{pins:List (Addr×Obj)}{σ:St}{H:Hp}{s:Shared}
theorem J9(I:Inv X pins σ H s)(T:eB P lp (X.env.qual ++ "<lambda>") H)(xR:X.env.code=.ref c)(C:CodeHd X.base c P)(hB:X.base.BuiltinsAt X.mg P)(Ka:defaultsOf params X.env=([],[]))(jt:(scope.names.all fun y=>!(y.2 == NameKind.free) || (X.env.cells.lookup y.1).isSome)=true)(h:∀ f c' H',aU P H H'->eB P lp (X.env.qual ++ "<lambda>") H'->H' f=some (yW f c' (X.env.qual ++ "<lambda>") params body scope (dS X.env.cells scope.names []))->H' c'=some (qr c' (X.env.qual ++ "<lambda>"))->Q (.ref f) H'):
  wpAny (model X.prog X.w) X.A (eval (.Lambda params body scope lp) X.env) (EP X pins σ Q) X.xe s:=by
 have Qg:∀ p∈scope.names,p.2=.free->∃ c,X.env.cells.lookup p.1=some c:=fun y hy e=>by
  have z:=all_eq_true.mp jt y hy
  rw [e] at z
  exact aao.mp (by simpa using z)
 have Ox:=tx Qg
 obtain ⟨ps,hP,ht,hc⟩:=T
 have oP:s.heap.get? P=some (tabObj ps):=I.bh P _ hP
 have OU:s.heap.Ns mainGlobals X.mg:=I.mod.glob.keeps I.bk
 have hB':s.heap.BuiltinsAt X.mg P:=by
  obtain ⟨bm,ob,b1,b2,b3,b4,b5,b6⟩:=hB
  exact⟨bm,ob,b1,b2,b3,b4,I.bk _ _ b5,b6⟩
 have VJ:∀ {h2:Heap} {f c':Addr} {pm yV:Value} {sc:Scope} {q:Str} {cl:List (Str×Addr)},h2.get? f=some (kla_obj "<lambda>" q params body sc cl pm c' yV)->∀ {H2:Hp},cv X.prog X.w H2 h2 f (yW f c' q params body sc cl):=fun {h2 f c' pm yV sc q cl} e {H2} =>
  ⟨⟨pm,yV,e⟩,⟨_,e⟩,fun h1 h3 ⟨pm,yV,z⟩ k=>⟨pm,yV,k _ z⟩⟩
 refine kla_eval Ka ?_
 rcases hc with hn|⟨c',hc,TR⟩
 ·have hgP:mainGlobals≠P:=fun q=>by
   obtain ⟨o,es,ep,e,hd,_⟩:=OU
   rw [q,oP] at e;cases e;cases hd
  refine kla_makeFunction (mg:=X.mg) Ox I.ok.glob OU xR (C.keeps I.bk) oP ht hn hgP hB' fun c' yV h' tk hx OF fk Zs Tn=>?_
  obtain ⟨ob,To⟩:∃ ob:Obj,ob=kla_obj "<lambda>" (X.env.qual ++ "<lambda>") params body scope (dS X.env.cells scope.names []) ((X.mg "__name__").getD .none) c' yV:=⟨_,rfl⟩
  have yP:ob.isFreed=false:=by rw [To];rfl
  have Xv:=aaf h' yP
  rw [<- To]
  have big:s.heap.objs.size<=h'.objs.size:=aag OF (aai fk)
  have ncP:c'≠P:=Nat.ne_of_gt (Nat.lt_of_lt_of_le (aae oP) OF)
  have nfP:h'.objs.size≠P:=Nat.ne_of_gt (Nat.lt_of_lt_of_le (aae oP) big)
  have ncf:c'≠h'.objs.size:=aa1 fk
  have old:∀ b o,b≠P->s.heap.get? b=some o->(h'.push ob).get? b=some o:=fun b o n e=>aab _ (hx b o n e)
  have fc:H c'=none:=I.bh.fresh OF
  have ff:H h'.objs.size=none:=I.bh.fresh big
  have sP:aU P H (upd (upd (upd H P (.sR (ps++#[rawInt lp.line,rawInt lp.col,.ref c']))) c' (qr c' (X.env.qual ++ "<lambda>"))) h'.objs.size (yW h'.objs.size c' (X.env.qual ++ "<lambda>") params body scope (dS X.env.cells scope.names []))):=fun b o n e=>by
   rw [ay (aJ e ff),ay (aJ e fc),ay n]
   exact e
  generalize VL:upd (upd (upd H P (.sR (ps++#[rawInt lp.line,rawInt lp.col,.ref c']))) c' (qr c' (X.env.qual ++ "<lambda>"))) h'.objs.size (yW h'.objs.size c' (X.env.qual ++ "<lambda>") params body scope (dS X.env.cells scope.names []))=H' at sP
  have eP:H' P=some (.sR (ps++#[rawInt lp.line,rawInt lp.col,.ref c'])):=by rw [<- VL,ay (Ne.symm nfP),ay (Ne.symm ncP),aw]
  have ec:H' c'=some (qr c' (X.env.qual ++ "<lambda>")):=by rw [<- VL,ay ncf,aw]
  have ef:H' h'.objs.size=some (yW h'.objs.size c' (X.env.qual ++ "<lambda>") params body scope (dS X.env.cells scope.names [])):=by rw [<- VL,aw]
  have no:∀ b,H b=none->b≠h'.objs.size->b≠c'->H' b=none:=fun b n n1 n2=>by
   rw [<- VL,ay n1,ay n2,ay (fun z=>by rw [z,hP] at n;cases n)]
   exact n
  have un:Un X.fs [] H H' s.heap (h'.push ob):=by
   refine⟨fun b o e n _ _=>old b o (fun z=>by rw [z,hP] at n;cases n) e,fun b o e n _ _=>⟨o.slots,old b o (fun z=>by rw [z,hP] at n;cases n) e⟩,fun b o e n _=>no b n (fun z=>?_) (fun z=>?_),fun b o e _=>?_,fun b xs e=>sP b _ (fun z=>by rw [z,hP] at e;cases e) e,fun b o u e=>sP b _ (fun z=>by rw [z,hP] at e;cases e) e,fun b qs e=>?_⟩
   ·exact absurd z (aa1 (Nat.lt_of_lt_of_le (aae e) big))
   ·exact absurd z (aa1 (Nat.lt_of_lt_of_le (aae e) OF))
   ·by_cases hb:b=P
    ·subst hb
     exact⟨_,aab _ Tn⟩
    ·exact⟨o,old b o hb e⟩
   ·by_cases hb:b=P
    ·subst hb
     rw [hP] at e
     cases e
     exact⟨_,eP⟩
    ·exact⟨#[],by rw [sP b _ hb e];simp⟩
  have bh:gO X.prog X.w H' (h'.push ob):=fun b o e=>by
   by_cases h1:b=h'.objs.size
   ·subst h1
    rw [ef] at e
    cases e
    exact VJ (by rw [Xv,To])
   ·by_cases h2:b=c'
    ·subst h2
     rw [ec] at e
     cases e
     obtain ⟨c2,oc,vs,t,e2,TQ,hd,hv⟩:=Zs
     cases e2
     exact⟨⟨_,oc,vs,t,rfl,aab _ TQ,hd,hv⟩,⟨oc,aab _ TQ⟩,fun h1 h2 ⟨c3,o3,v3,t3,z1,z2,z3,z4⟩ k=>⟨c3,o3,v3,t3,z1,by cases z1;exact k _ z2,z3,z4⟩⟩
    ·by_cases h3:b=P
     ·subst h3
      rw [eP] at e
      cases e
      exact aab _ Tn
     ·have e0:H b=some o:=by rw [<- VL,ay h1,ay h2,ay h3] at e;exact e
      refine (I.bh b o e0).rB (fun d u hd z=>old d u (fun w=>?_) z) (fun d z=>sP d _ (fun w=>by rw [w,hP] at z;cases z) z) fun d xs z=>sP d _ (fun w=>by rw [w,hP] at z;cases z) z
      rcases hd with rfl|hd
      ·exact h3 w
      ·rw [w,hP] at hd;cases hd
  refine⟨.ref h'.objs.size,H',I.un un bh,rfl,h _ c' H' sP ⟨_,eP,?_,.inr ⟨c',?_,ec⟩⟩ ef ec⟩
  ·rw [Array.toList_append]
   exact TriplesOk_snoc _ _ _ _ ht
  ·rw [Array.toList_append]
   exact codeAmong_snoc _ ht hn
 ·refine kla_makeFunctionHit (mg:=X.mg) Ox I.ok.glob OU xR (C.keeps I.bk) oP ht hc hB' fun yV h' tk hk lI=>?_
  obtain ⟨ob,To⟩:∃ ob:Obj,ob=kla_obj "<lambda>" (X.env.qual ++ "<lambda>") params body scope (dS X.env.cells scope.names []) ((X.mg "__name__").getD .none) c' yV:=⟨_,rfl⟩
  have yP:ob.isFreed=false:=by rw [To];rfl
  have Xv:=aaf h' yP
  have ff:H h'.objs.size=none:=I.bh.fresh lI
  have sm:aj H (upd H h'.objs.size (yW h'.objs.size c' (X.env.qual ++ "<lambda>") params body scope (dS X.env.cells scope.names []))):=aj.aZ ff
  refine⟨.ref h'.objs.size,upd H h'.objs.size (yW h'.objs.size c' (X.env.qual ++ "<lambda>") params body scope (dS X.env.cells scope.names [])),I.laid (fun b u e=>aab _ (hk b u e)) lI (VJ (by rw [To] at Xv;exact Xv)),rfl,h _ c' _ (aU.of sm) (eB.same ⟨ps,hP,ht,.inr ⟨c',hc,TR⟩⟩ sm) aw (sm _ _ TR)⟩
end
end L2
namespace L2
open PySem PySem.Spec PyProof.Rows PySem.W
section
variable {K:Frag}{H H':Hp}{P a:Addr}{lp:Pos}{q:Str}{xs:List V}
theorem eB.at(t:eB P lp q H):∃ ps,H P=some (.sR ps):=let ⟨ps,h,_⟩:=t;⟨ps,h⟩
theorem aU.at(s:aU P H H')(t:eB P lp q H)(h:aC K H a xs):aC K H' a xs:=by
 obtain ⟨ps,hP⟩:=t.at
 exact h.imp (fun z=>z.imp (fun e=>s _ _ (fun w=>by rw [w,hP] at e;cases e) e) fun ⟨o,e⟩=>⟨o,s _ _ (fun w=>by rw [w,hP] at e;cases e) e⟩) id
theorem aU.seq(s:aU P H H')(t:eB P lp q H)(h:aP K H a xs):aP K H' a xs:=by
 obtain ⟨ps,hP⟩:=t.at
 exact h.imp (fun z=>z.imp (fun e=>s _ _ (fun w=>by rw [w,hP] at e;cases e) e) fun ⟨o,e⟩=>⟨o,s _ _ (fun w=>by rw [w,hP] at e;cases e) e⟩) id
theorem aU.lst(s:aU P H H')(t:eB P lp q H)(h:H a=some (.lst xs)):H' a=some (.lst xs):=by
 obtain ⟨ps,hP⟩:=t.at
 exact s _ _ (fun w=>by rw [w,hP] at h;cases h) h
end
def mh(K:Frag)(P:Addr)(lp:Pos)(q:Str)(ixs:List (Option Nat))(te:TE)(σ:St):V->Hp->VK->Prop:=fun x H Q=>∃ (l:Addr) (xs:List V) (kz:List Int),x=.ref l/\aP K H l xs/\kz.length=xs.length/\xs.length<64/\eB P lp q H /\
 (∀ (i:Nat) (x:V) (n:Int),xs[i]?=some x->kz[i]?=some n->∀ H',aU P H H'->te (some x::pick ixs σ) H' (fun v Ng=>v=.int n/\aj H' Ng)) /\
 ∀ p H' ys,aU P H H'->eB P lp q H'->H' p=some (.lst ys)->dZ false kz xs ys->Q (.ref p) H'
def De(K:Frag)(P:Addr)(lp:Pos)(q:Str)(ixs:List (Option Nat))(te:TE)(t:TE):TE:=fun σ H Q=>t σ H fun x H1=>mh K P lp q ixs te σ x H1 Q
section
variable {X:Cx}{k:Nat}{q y:Str}{fns:List Str}{ixs:List (Option Nat)}{params:Arguments}{body:Expr}{scope:Scope}{p lp Ij pos:Pos}{e:Expr}{t te:TE}{c P:Addr}
theorem Kb(hq:X.env.qual ++ "<lambda>"=q)(hr:bK (k+2) X.A)(ha:PE X e t)(xR:X.env.code=.ref c)(C:CodeHd X.base c P)(hB:X.base.BuiltinsAt X.mg P)(tZ:∀ (cl:List (Str×Addr)) (pm yV:Value) (c':Addr) (u:Value),bindArgs (kla_fn "<lambda>" q params body scope cl pm (.ref c') yV) ⟨[u],[]⟩=pure [(y,u)])(he:∀ f c' s H,PE (EZ X X.A.in1.in1 (y::fns) q scope f (.ref c') s H) body te)(oW:scope.names.lookup y=some .local)(VI:scope.isCoroutine=false)(J8:scope.isGenerator=false)(hk:scope.kind=.function)(dJ:∀ y∈scope.names,y.2≠.cell)(jt:(scope.names.all fun y=>!(y.2 == NameKind.free) || (X.env.cells.lookup y.1).isSome)=true)(Ar:jr X scope fns ixs)(Ka:defaultsOf params X.env=([],[]))(hg:Gl X (Str.ofString "sorted"))(hm:X.mg "sorted"=none)(hv:bootBuiltins "sorted"=some (.builtin "sorted"))(rD:starEach [e] X.env=(false,eval e X.env)::starEach [] X.env:=by rfl):
  PE X (.Call (.Name "sorted" p) [e] [⟨some (Str.ofString "key"),.Lambda params body scope lp,Ij⟩] pos) (De X.K P lp q ixs te t):=by
 subst hq
 intro pins s σ H Q I h
 refine wpAny_Call_Name_kw (jy I hg hm hv ?_ aa8 aa8)
 have MY:PA X [e] (xn t Aj):=aa ha af rD
 have Zt:PE X (.Lambda params body scope lp) (fun _ H Q=>eB P lp (X.env.qual ++ "<lambda>") H/\∀ f c' H',aU P H H'->eB P lp (X.env.qual ++ "<lambda>") H'->H' f=some (yW f c' (X.env.qual ++ "<lambda>") params body scope (dS X.env.cells scope.names []))->H' c'=some (qr c' (X.env.qual ++ "<lambda>"))->Q (.ref f) H') :=
  fun pins s σ H Q I h=>J9 I h.1 xR C hB Ka jt h.2
 have gn:PK X [⟨some (Str.ofString "key"),.Lambda params body scope lp,Ij⟩] (xn _ Aj):=Ml Zt PU
 refine callWith_kw (cu (MY pos pins s σ H (fun vs H1=>∃ x,vs=[x]/\mh X.K P lp (X.env.qual ++ "<lambda>") ixs te σ x H1 Q) I ?_) fun us s1 ⟨vs,H1,I1,r,x,ev,q⟩=>?_) (by rw [rD];rfl) (by rw [rD];rfl) rfl rfl
 ·show t σ H fun x H1=>∃ z,[x]=[z]/\mh X.K P lp (X.env.qual ++ "<lambda>") ixs te σ z H1 Q
  have e:(fun (x:V) (H1:Hp)=>∃ z,[x]=[z]/\mh X.K P lp (X.env.qual ++ "<lambda>") ixs te σ z H1 Q)=fun x H1=>mh X.K P lp (X.env.qual ++ "<lambda>") ixs te σ x H1 Q:=by
   funext x H1
   apply propext
   exact⟨fun ⟨z,e,q⟩=>by cases e;exact q,fun q=>⟨x,rfl,q⟩⟩
  rw [e]
  exact h
 ·subst ev
  obtain ⟨u,rfl,ru⟩:=vals1 r
  obtain ⟨l,xs,kz,rfl,hs,h1,h2,tb,turn,hQ⟩:=q
  refine cu (gn pos pins s1 σ H1 (fun zs H2=>∃ f c',zs=[V.ref f]/\aU P H1 H2/\eB P lp (X.env.qual ++ "<lambda>") H2/\H2 f=some (yW f c' (X.env.qual ++ "<lambda>") params body scope (dS X.env.cells scope.names []))/\H2 c'=some (qr c' (X.env.qual ++ "<lambda>"))) I1 ⟨tb,fun f c' H' a1 a2 a3 a4=>⟨f,c',rfl,a1,a2,a3,a4⟩⟩) fun ws s2 ⟨zs,H2,I2,rz,f,c',ez,sT,tT,ef,ec⟩=>?_
  subst ez
  obtain ⟨w,rfl,rw_⟩:=vals1 rz
  cases rw_
  cases ru
  refine wx (kz:=kz) (xs:=xs) (fun fz H' s' i x u n _ hx hn sm rx I'=>?_) I2 (sT.seq tb hs) h1 h2 fun p H' ys sm hp so=>hQ p H' ys (sT.trans (aU.of sm)) (tT.same sm) hp so
  obtain ⟨⟨pm,yV,eo⟩,_⟩:=I'.bh f _ (sm _ _ ef)
  obtain ⟨eco,_⟩:=I'.bh c' _ (sm _ _ ec)
  exact J7 I' (bK.in1 (bK.in1 hr)).hd I'.ok.frames (by have:=(bK.in1 (bK.in1 hr)).dp;lia) eo eco (tZ _ _ _ _ _) oW VI J8 hk dJ jt Ar (he _ _ _ _) rx (turn i x n hx hn H' (sT.trans (aU.of sm)))
variable {K:Frag}
theorem Go(K:Frag)(hK:X.K=K)(hq:X.env.qual ++ "<lambda>"=q)(hr:bK (k+2) X.A)(ha:PE X e t)(xR:X.env.code=.ref c)(C:CodeHd X.base c P)(hB:X.base.BuiltinsAt X.mg P)(tZ:∀ (cl:List (Str×Addr)) (pm yV:Value) (c':Addr) (u:Value),bindArgs (kla_fn "<lambda>" q params body scope cl pm (.ref c') yV) ⟨[u],[]⟩=pure [(y,u)])(he:∀ f c' s H,PE (EZ X X.A.in1.in1 (y::fns) q scope f (.ref c') s H) body te)(oW:scope.names.lookup y=some .local)(VI:scope.isCoroutine=false)(J8:scope.isGenerator=false)(hk:scope.kind=.function)(dJ:∀ y∈scope.names,y.2≠.cell)(jt:(scope.names.all fun y=>!(y.2 == NameKind.free) || (X.env.cells.lookup y.1).isSome)=true)(Ar:jr X scope fns ixs)(Ka:defaultsOf params X.env=([],[]))(hg:Gl X (Str.ofString "sorted"))(hm:X.mg "sorted"=none)(hv:bootBuiltins "sorted"=some (.builtin "sorted"))(rD:starEach [e] X.env=(false,eval e X.env)::starEach [] X.env:=by rfl):
  PE X (.Call (.Name "sorted" p) [e] [⟨some (Str.ofString "key"),.Lambda params body scope lp,Ij⟩] pos) (De K P lp q ixs te t):=by
 subst hK
 exact Kb hq hr ha xR C hB tZ he oW VI J8 hk dJ jt Ar Ka hg hm hv rD
end
section
variable {K:Frag}{H:Hp}{Q:VK}{σ:St}{P:Addr}{lp:Pos}{q:Str}{ixs:List (Option Nat)}{te:TE}
theorem Nh(h:t σ H fun x H1=>mh K P lp q ixs te σ x H1 Q):De K P lp q ixs te t σ H Q:=h
theorem Kc(kz:List Int)(tb:eB P lp q H)(hs:aP K H l xs)(h1:kz.length=xs.length)(h2:xs.length<64)(turn:∀ (i:Nat) (x:V) (n:Int),xs[i]?=some x->kz[i]?=some n->∀ H',aU P H H'->te (some x::pick ixs σ) H' (fun v Ng=>v=.int n/\aj H' Ng))(k:∀ p H' ys,aU P H H'->eB P lp q H'->H' p=some (.lst ys)->dZ false kz xs ys->Q (.ref p) H'):mh K P lp q ixs te σ (.ref l) H Q:=⟨l,xs,kz,rfl,hs,h1,h2,tb,turn,k⟩
end
end L2
namespace L2
open PySem PySem.Spec PyProof.Rows PySem.W
def Kd(tabs:List (Addr×Addr))(H:Hp):Prop:=∀ q∈tabs,H q.2=some (.sR #[])
def Ni(K:Frag)(mg:Str->Option Value)(x:Str)(st:Stmt)(ps:List Str)(c:Addr):Prop :=
 ∃ (f:Addr) (fd:FuncData) (oc:Value) (od:Option Addr) (kV doc pm:Value) (an:Option Addr) (ct:Value) (An:Array (Option Value)),fd=PySem.W.fnOf x x (cV st) (bw st) (al st) .none kV doc pm an (.ref c) ct/\K.lookup f=some ⟨oc,od,.func fd,An⟩/\PySem.W.codeIn K (.ref c) x=true/\PySem.W.keepIn K (.ref f)=true/\mg x=some (.ref f)/\Binds K fd ps []
section
variable {Pr:Program}{w:World}{K:Frag}{mg:Str->Option Value}{base:Heap}
theorem Ni.ok{x:Str}{st:Stmt}{N ps:List Str}{k:Nat}{sp:Sp}{c:Addr}(D:Ni K mg x st ps c)(S:ao N ps (al st))(len:∀ vs H Q E,sp vs H Q E->vs.length=ps.length)
  (di:∀ (f:Addr) (A:Around) (outer:List Env) (s:Shared) (H:Hp) (vs:List V) (Q:VK) (E:XK),bK k (A.deeper (envOfC x (al st) s.heap.objs.size f (.ref c)))->sp vs H Q E ->
   ∃ t,oB (gP CJ Pr w K mg base N x (al st) f (.ref c) A outer s H E).Cp (bw st) t/\t { nx:=fun _ H'=>Q .cJ H',rt:=Q } (start N vs) H):Ok Pr w K mg base (k+1) x ps sp:=by
 obtain ⟨f,fd,oc,od,kV,doc,pm,an,ct,An,rfl,lk,lS,Xw,hm,hb⟩:=D
 refine⟨f,_,Am lk lS S len fun A outer s H vs Q E hr lX=>?_,hm,Xw,hb⟩
 obtain ⟨t,h,q⟩:=di f A outer s H vs Q E hr lX
 exact⟨t,h.Cp,q⟩
end
end L2
namespace L2
open PySem PySem.Spec PyProof.Rows PySem.W
def yX(K:Frag)(y:Str):Addr:=((tabIn K y).getD (0,0)).2
theorem E1{K:Frag}{y:Str}{c P:Addr}(h:tabIn K y=some (c,P)):yX K y=P:=by unfold yX;rw [h];rfl
def Df(y:Str)(lp:Pos)(q:Str)(K:Frag):Sp:=fun vs H Q _=>∃ (a:Addr) (ns:List Int),vs=[.ref a]/\aP K H a (ns.map V.int)/\ns.length<=63/\eB (yX K y) lp q H/\∀ H',Q (.bl true) H'
open PySem PySem.Spec PyProof.Rows
def Xx(hi:Int)(n:Nat):It:=⟨fun i _=>i<n,fun i H x H'=>H'=H/\x=.int (hi - i),fun i _=>n<=i⟩
theorem Gp{P:Program}{w:World}{K:Frag}{tg:Expr}(it:Addr)(hi:Int)(n:Nat):Turn P w K tg (Xx hi n) [it] it (fun i h=>IsRangeIter h it (hi+(i:Nat)*(-1)) ((n:Int) - (i:Nat)) (-1)) where
 mem:=by simp
 obj:=fun i h st b hb=>by
  obtain rfl:b=it:=by simpa using hb
  exact⟨_,st,fun v z=>nomatch (show Data.fields _=Data.cell v from z)⟩
 keep:=fun i h h' st k=>k it (by simp) _ st
 item:=by
  intro X hP hw hK hc i pins s σ H E I hf st hg
  subst hP hw hK
  obtain ⟨f0,f1,f2,f3,f4,f5⟩:=hf it (by simp)
  have WD:=Walks.range (prog:=X.prog) (w:=X.w) (I.ok.hd hc) it hi (-1) n
  refine WD.item i s _ _ hg st fun v h' tk hv gm kk=>?_
  obtain ⟨t,rfl⟩:=hv
  have ID:Inv X pins σ H { s with heap:=h',toks:=tk }:=I.turned (fun b o hb e=>kk b o (by simpa using hb) e) f0 f1 f3 f4 f5
  refine⟨_,rfl,sY (s:={ s with heap:=h',toks:=tk }) (n:="range_iterator") gm rfl rfl aa8 ⟨.int (hi - i),H,ID,⟨t,?_⟩,⟨rfl,rfl⟩,gm,fun b hb=>(hf b hb).1⟩⟩
  rw [show hi+(i:Int)*(-1)=hi - i by lia]
 done:=by
  intro X hP hw hK hc i pins s σ H E I hf st hg
  subst hP hw hK
  obtain ⟨f0,f1,f2,f3,f4,f5⟩:=hf it (by simp)
  exact wpAny_pyNext_range_end (I.ok.hd hc) st (by have Vp:n<=i:=hg;lia) fun h' eb=>⟨rfl,I.turned (t':=s.toks) (fun b o hb e=>eb b o hb e) f0 f1 f3 f4 f5⟩
 self:=fun _ _ _ _ _ st h=>wpAny_pyIter_rangeiter st h
theorem xS(a b:Int):Builtin.Range.rangeSize a b (-1)=if b<a then a - b else 0:=by
 unfold Builtin.Range.rangeSize
 simp only [show ¬ ((-1:Int) > 0) by decide,if_false,Int.neg_neg,Int.ediv_one]
 split <;> lia
theorem Dg{a b:Int}(ha:-1000000<=a/\a<=1000000)(hb:-1000000<=b/\b<=1000000):Builtin.Range.small a b (-1)=true:=by
 unfold Builtin.Range.small
 rw [xS]
 simp only [Builtin.Range.rangeFitsLong,Bool.and_eq_true,Bool.or_eq_true,decide_eq_true_eq,beq_iff_eq,show ¬ ((-1:Int) > 0) by decide,if_false]
 split <;> lia
section
variable {X:Cx}{tg:Expr}
def Rv:List V->Hp->(It->Hp->Prop)->Prop:=fun vs H R=>∃ i j:Int,vs=[.int i,.int j,.int (-1)]/\(-1000000<=i/\i<=1000000)/\(-1000000<=j/\j<=1000000)/\R (Xx i (i - j).toNat) H
def OV(ta:TA):TI:=fun σ H R=>ta σ H fun vs H1=>Rv vs H1 R
theorem Gq(hg:Gl X "range")(hm:X.mg "range"=none)(ha:PA X [a,b,c] ta)(hs:starEach [a,b,c] X.env=[(false,eval a X.env),(false,eval b X.env),(false,eval c X.env)]:=by rfl)(iC:starEach [b,c] X.env=[(false,eval b X.env),(false,eval c X.env)]:=by rfl):
  PI X tg (.Call (.Name "range" p) [a,b,c] [] pos) (OV ta):=by
 intro pins s σ H R I h
 refine Call_ (jy I hg hm boot_range (callWith_type1 (cu (ha pos pins s σ H _ I h) fun us s1 ⟨vs,H1,I1,r1,q1⟩=>?_) (by rw [hs,iC]) (by rw [iC];rfl)))
 obtain ⟨i,j,e,hi,hj,q⟩:=q1
 subst e
 cases r1 with
 | cons r rr =>
  cases rr with
  | cons r' rr =>
   cases rr with
   | cons r'' rr =>
    cases rr
    obtain ⟨t,rfl⟩:=r
    obtain ⟨t',rfl⟩:=r'
    obtain ⟨Xy,rfl⟩:=r''
    refine call_range_3 aa8 ?_ (Or.inl (PyProof.noPylong_of_log2 TH))
    refine wpAny_pyIter_range (IsRange.new ..) (Dg hi hj) ?_
    have ID:Inv X pins σ H1 { s1 with heap:=s1.heap.push { cls:=.type "range",data:=.fields #[.int i t,.int j t',.int (-1) Xy] },toks:=s1.toks }:=I1.kept fun b o e=>aab _ e
    refine⟨(s1.heap.push { cls:=.type "range",data:=.fields #[.int i t,.int j t',.int (-1) Xy] }).objs.size,[(s1.heap.push { cls:=.type "range",data:=.fields #[.int i t,.int j t',.int (-1) Xy] }).objs.size],_,_,H1,rfl,
     ID.kept (t':=s1.toks) fun b o e=>aab _ e,Gp _ i (i - j).toNat,?_,fun b hb=>?_,q⟩
    ·have e1:i+((0:Nat):Int)*(-1)=i:=by simp
     have e2:(((i - j).toNat:Nat):Int) - ((0:Nat):Int)=Builtin.Range.rangeSize i j (-1):=by rw [xS];split <;> lia
     show IsRangeIter _ _ (i+((0:Nat):Int)*(-1)) ((((i - j).toNat:Nat):Int) - ((0:Nat):Int)) (-1)
     rw [e1,e2]
     exact aaf _ rfl
    ·obtain rfl:b=(s1.heap.push { cls:=.type "range",data:=.fields #[.int i t,.int j t',.int (-1) Xy] }).objs.size:=by simpa using hb
     exact ID.we (aah _) (ID.bh.fresh (aah _))
end
section
variable {H:Hp}{σ:St}{R:It->Hp->Prop}
theorem Nj(h:ts σ H fun vs H1=>Rv vs H1 R):OV ts σ H R:=h
theorem Rw{i j:Int}(h1:-1000000<=i/\i<=1000000)(h2:-1000000<=j/\j<=1000000)(h:R (Xx i (i - j).toNat) H):Rv [.int i,.int j,.int (-1)] H R:=⟨i,j,rfl,h1,h2,h⟩
variable {g:TG}{D:Ends}
theorem Rx{hi:Int}{n:Nat}(Pv:Nat->St->Hp->Prop)(h0:Pv 0 σ H)(hs:∀ i σ H2,i<n->Pv i σ H2->g (.int (hi - i)) σ H2 fun σ2 H4=>tb { D with nx:=Pv (i+1),ct:=Pv (i+1),bk:=D.nx } σ2 H4)(hd:∀ σ H2,Pv n σ H2->D.nx σ H2):dA g tb D (Xx hi n) σ H:=by
 refine A5 n Pv h0 (fun i σ H2 hi _=>hi) (fun σ H2 _=>aah _) (fun i x σ H2 H3 hi p y=>?_) hd
 obtain ⟨rfl,rfl⟩:=y
 exact hs i σ _ hi p
end
theorem qu{α:Type}{rs:List α}{f:α->Bool}{i:Nat}{r:α}(h:rs[i]?=some r):(rs.take (i+1)).filter f=(rs.take i).filter f++(if f r then [r] else []):=by
 rw [take_add_one,h,filter_append]
 cases e:f r <;> simp [e]
theorem Gr{α β:Type}{rs:List α}{g:α->β}{i:Nat}{r:α}(h:rs[i]?=some r):(rs.take (i+1)).map g=(rs.take i).map g++[g r]:=by
 rw [take_add_one,h,aaR]
 rfl
section
variable {K:Frag}{H:Hp}{σ:St}{Q:VK}{ix:List (Option Nat)}{l:Addr}{xs:List V}{rs:List (List Int)}
theorem eN(fr:St)(f:List Int->Bool)(gn:pick ix σ=none::fr)(hl:aP K H l xs)(hr:az K H xs rs)(hn:rs.length<=1000)(test:∀ (a:Addr) (r:List Int) (H':Hp) (Qt:Bool->Hp->Prop),r∈rs->aj H H'->aC K H' a (r.map V.int)->(∀ H5,aj H' H5->Qt (f r) H5)->tt (some (.ref a)::fr) H' Qt)(elt:∀ (a:Addr) (H':Hp) (Qc:VK),aj H H'->Qc (.ref a) H'->te (some (.ref a)::fr) H' Qc)(hQ:∀ l2 H' ys,H l2=none->aj H H'->H' l2=some (.lst ys)->az K H' ys (rs.filter f)->Q (.ref l2) H'):aV ix (bu 0) tt te σ Q (LJ K l) H:=by
 have hlen:=hr.length
 refine kL (K:=K) 1 fr rs.length (fun i=>(rs.take i).filter f) gn rfl (fun i=>aag (aa4 _ _) (aag (length_take_le' _ _) hn)) (fun H' s=>⟨xs,s.seq hl,aaa⟩) (fun i H' hi s=>⟨xs,xs[i]' aaa,s.seq hl,aat aaa⟩) (fun i x H' H2 own ho hi s hy Qy Qn ky kn=>?_) (fun l2 H' ys a b c d=>hQ l2 H' ys a b c (by rw [aaN] at d;exact d))
 obtain ⟨o1,rfl⟩:∃ o1,own=[o1]:=by match own,ho with|[o1],_=>exact⟨o1,rfl⟩
 obtain ⟨rfl,e⟩:=hy
 obtain ⟨a,r,rfl,ha,yr⟩:=hr.get (e xs (s.seq hl))
 have iK:r∈rs:=by
  obtain ⟨h1,h2⟩:=aad.mp yr
  rw [<- h2]
  exact aa5 h1
 have et:=qu (f:=f) yr
 dsimp only [bu]
 refine test a r _ _ iK s (s.at ha) fun H5 s5=>?_
 cases ef:f r with
 | true =>
  rw [ef] at et
  rw [if_pos rfl]
  exact elt a H5 _ (s.trans s5) (ky [some (.ref a)] a r H5 rfl s5 ((s.trans s5).at ha) et)
 | false =>
  rw [ef] at et
  rw [if_neg aa8]
  exact kn [some (.ref a)] H5 rfl s5 (by rw [et];simp)
theorem iR(fr:St)(g:List Int->List Int)(gn:pick ix σ=none::fr)(hl:aP K H l xs)(hr:az K H xs rs)(hn:rs.length<=1000)(elt:∀ (a:Addr) (r:List Int) (H':Hp) (Qc:VK),r∈rs->aj H H'->aC K H' a (r.map V.int)->(∀ p H5,aj H' H5->aC K H5 p ((g r).map V.int)->Qc (.ref p) H5)->te (some (.ref a)::fr) H' Qc)(hQ:∀ l2 H' ys,H l2=none->aj H H'->H' l2=some (.lst ys)->az K H' ys (rs.map g)->Q (.ref l2) H'):aV ix (bu 0) (fun _ H Q=>Q true H) te σ Q (LJ K l) H:=by
 have hlen:=hr.length
 refine kL (K:=K) 1 fr rs.length (fun i=>(rs.take i).map g) gn rfl (fun i=>by rw [aaz];exact aag (length_take_le' _ _) hn) (fun H' s=>⟨xs,s.seq hl,aaa⟩) (fun i H' hi s=>⟨xs,xs[i]' aaa,s.seq hl,aat aaa⟩) (fun i x H' H2 own ho hi s hy Qy Qn ky kn=>?_) (fun l2 H' ys a b c d=>hQ l2 H' ys a b c (by rw [aaN] at d;exact d))
 obtain ⟨o1,rfl⟩:∃ o1,own=[o1]:=by match own,ho with|[o1],_=>exact⟨o1,rfl⟩
 obtain ⟨rfl,e⟩:=hy
 obtain ⟨a,r,rfl,ha,yr⟩:=hr.get (e xs (s.seq hl))
 have iK:r∈rs:=by
  obtain ⟨h1,h2⟩:=aad.mp yr
  rw [<- h2]
  exact aa5 h1
 dsimp only [bu]
 rw [if_pos rfl]
 exact elt a r _ _ iK s (s.at ha) fun p H5 s5 hp=>ky [some (.ref a)] p (g r) H5 rfl s5 hp (Gr yr)
end
end L2
namespace L2
open PySem PySem.Spec PyProof.Rows PySem.W
theorem az.iz{K:Frag}{H H':Hp}{P:Addr}{lp:Pos}{q:Str}(s:aU P H H')(t:eB P lp q H):∀ {xs:List V} {rs:List (List Int)},az K H xs rs->az K H' xs rs
 | _,_,.nil=>.nil
 | _,_,.cons h u=>.cons (s.at t h) (az.iz s t u)
theorem az.Ry{K:Frag}{H:Hp}{xs:List V}{r:List Int}{rs:List (List Int)}(h:az K H xs (r::rs)):∃ a ys,xs=.ref a::ys/\aC K H a (r.map V.int)/\az K H ys rs:=by
 cases h with
 | cons h t=>exact⟨_,_,rfl,h,t⟩
open PySem PySem.Spec PyProof.Rows
theorem Ke{K:Frag}{D:Ends}{σ:St}{H:Hp}{k:Bool}{a:Addr}{xs:List V}{m n:Nat}{tb:TS}(Pv:Nat->St->Hp->Prop)(h0:Pv 0 σ H)(ha:∀ i σ H2,Pv i σ H2->Sq k K H2 a xs)
  (hs:∀ (i:Nat) x σ H2 H3,xs[i]?=some x->Pv i σ H2->aj H2 H3->tb { D with nx:=Pv (i+1),ct:=Pv (i+1),bk:=D.nx } ((σ.set m (some (.int i))).set n (some x)) H3)
  (hd:∀ σ H2,Pv xs.length σ H2->D.nx σ H2):dA (wd K 2 (eS (bu m) (eS (bu n) yd))) tb D (Rr K k a) σ H:=by
 refine A5 xs.length Pv h0 (fun i σ H2 hi p=>⟨_,xs[i],ha i σ H2 p,aat hi⟩) (fun σ H2 p=>⟨_,ha _ σ H2 p,aah _⟩) (fun i x σ H2 H3 hi p y=>?_) hd
 obtain ⟨q,x',rfl,hp,e1,rfl⟩:=y
 have g1:=e1 _ (ha i σ _ p)
 refine⟨q,_,rfl,aC.of aw,rfl,_,_,rfl,_,_,rfl,rfl,?_⟩
 exact hs i x' σ _ _ g1 p (aj.aZ hp)
theorem aU.new(s:aU P H H')(t:eB P lp q H')(n:H' a=none):H a=none:=by
 match e:H a with
 | none=>rfl
 | some o =>
  by_cases z:a=P
  ·obtain ⟨ps,h,_⟩:=t
   rw [z,h] at n
   cases n
  ·rw [s a o z e] at n
   cases n
theorem aj.new(s:aj H H')(n:H' a=none):H a=none:=by
 match e:H a with
 | none=>rfl
 | some o =>
  rw [s a o e] at n
  cases n
theorem eB.off(t:eB P lp q H)(e:H l=some (.lst ys)):eB P lp q (upd H l (.lst zs)):=by
 obtain ⟨ps,h1,h2,h3⟩:=t
 refine⟨ps,by rw [ay (fun z=>by rw [z,e] at h1;cases h1)];exact h1,h2,h3.imp id fun ⟨c,z,y⟩=>⟨c,z,by rw [ay (fun z=>by rw [z,e] at y;cases y)];exact y⟩⟩
def E2(i j:Int):Prop:=HX i j\/c7 i j
theorem Nk:gq X (binaryOp .Mult) (rI E2 fun i j=>.int (i*j)):=PB fun _ _ _ _ _ _ _ hc q=>mul_int q (hc.elim HX.ok c7.ok)
section
variable {K:Frag}{H:Hp}{σ:St}{Q:VK}{ix:List (Option Nat)}
theorem jG(t:Nat)(fr:St)(n:Nat)(Pv:Addr->Nat->List V->Hp->Prop)(gn:pick ix σ=List.replicate t none++fr)(h0:∀ l H',H l=none->aj H H'->H' l=some (.lst [])->Pv l 0 [] H')(hn:∀ l i ys H',Pv l i ys H'->ys.length<=1000)(ir:∀ H',aj H H'->J.stop n H')(FR:∀ i H',i<n->aj H H'->J.go i H')(step:∀ l i x H' H2 own ys,own.length=t->i<n->H l=none->aj H H'->H' l=some (.lst ys)->Pv l i ys H'->J.Eg i H' x H2->∀ (Qy:St->VK) (Qn:St->Hp->Prop),
   (∀ iQ v H5,iQ.length=t->aj H' H5->Pv l (i+1) (ys++[v]) (upd H5 l (.lst (ys++[v])))->Qy (iQ++fr) v H5)->(∀ iQ H4,iQ.length=t->aj H' H4->Pv l (i+1) ys H4->Qn (iQ++fr) H4) ->
   g x (own++fr) H2 fun σ2 H3=>tt σ2 H3 fun b H4=>if b=true then te σ2 H4 (Qy σ2) else Qn σ2 H4)(hQ:∀ l H' ys,H l=none->aj H H'->H' l=some (.lst ys)->Pv l n ys H'->Q (.ref l) H'):aV ix g tt te σ Q J H:=by
 intro l hl
 refine⟨fun i m σ1 ys H'=>m=n - i/\i<=n/\(∃ own:St,own.length=t/\σ1=own++fr)/\aj H H'/\H' l=some (.lst ys)/\Pv l i ys H',⟨n,by simp,aa0 _,⟨_,length_replicate,gn⟩,aj.aZ hl,aw,h0 l _ hl (aj.aZ hl) aw⟩,?_⟩
 rintro i m σ1 ys H' ⟨rfl,hi,⟨own,ho,rfl⟩,hs,fE,hp⟩
 refine⟨fE,?_⟩
 by_cases fk:i<n
 ·refine .inr ⟨FR i H' fk hs,n - (i+1),aaa,fun x H2 hy=>step l i x H' H2 own ys ho fk hl hs fE hp hy _ _ (fun iQ v H5 wj s5 Zu=>?_) fun iQ H4 wj s4 hp4=>?_⟩
  ·have l5:=s5 _ _ fE
   refine⟨l5,aaG (hn l i ys H' hp) (dO (aah 1000)),rfl,fk,⟨iQ,wj,rfl⟩,fun b o e=>?_,aw,Zu⟩
   rw [ay (aJ e hl)]
   exact s5 _ _ (hs _ _ e)
  ·exact⟨rfl,fk,⟨iQ,wj,rfl⟩,hs.trans s4,s4 _ _ fE,hp4⟩
 ·obtain rfl:i=n:=by lia
  exact .inl ⟨ir H' hs,hQ l H' ys hl hs fE hp⟩
end
inductive ee(H:Hp):List V->List (List Int)->Prop where
 | nil:ee H [] []
 | cons {a:Addr} {r:List Int} {xs:List V} {rs:List (List Int)} (h:H a=some (.lst (r.map V.int))) (t:ee H xs rs):ee H (.ref a::xs) (r::rs)
namespace ee
variable {H H':Hp}
theorem length:∀ {xs:List V} {rs:List (List Int)},ee H xs rs->rs.length=xs.length
 | _,_,.nil=>rfl
 | _,_,.cons _ t=>by rw [length_cons,length_cons,t.length]
theorem same:∀ {xs:List V} {rs:List (List Int)},ee H xs rs->aj H H'->ee H' xs rs
 | _,_,.nil,_=>.nil
 | _,_,.cons h t,s=>.cons (s _ _ h) (t.same s)
theorem append:∀ {xs ys:List V} {rs qs:List (List Int)},ee H xs rs->ee H ys qs->ee H (xs++ys) (rs++qs)
 | _,_,_,_,.nil,u=>u
 | _,_,_,_,.cons h t,u=>.cons h (t.append u)
theorem off:∀ {xs:List V} {rs:List (List Int)},ee H xs rs->(∀ x∈xs,x≠.ref l)->ee (upd H l o) xs rs
 | _,_,.nil,_=>.nil
 | _,_,.cons (a:=a) h t,n=>.cons (by rw [ay (fun z=>n (.ref a) (.head _) (by rw [z]))];exact h) (t.off fun x hx=>n x (.tail _ hx))
end ee
section
variable {K:Frag}{H:Hp}{σ:St}{Q:VK}{ix:List (Option Nat)}{l:Addr}{xs:List V}{rs:List (List Int)}
theorem Be(fr:St)(g:Nat->List Int->List Int)(gn:pick ix σ=none::none::fr)(hl:aP K H l xs)(hr:az K H xs rs)(hn:rs.length<=1000)(elt:∀ (i:Nat) (a:Addr) (r:List Int) (H':Hp) (Qc:VK),rs[i]?=some r->aj H H'->aC K H' a (r.map V.int)->(∀ p H5,aj H' H5->aC K H5 p ((g i r).map V.int)->Qc (.ref p) H5)->te (some (.int i)::some (.ref a)::fr) H' Qc)(hQ:∀ l2 H' ys,H l2=none->aj H H'->H' l2=some (.lst ys)->az K H' ys (rs.mapIdx g)->Q (.ref l2) H'):aV ix (wd K 2 (eS (bu 0) (eS (bu 1) yd))) (fun _ H Q=>Q true H) te σ Q (Rr K false l) H:=by
 have hlen:=hr.length
 refine kL (K:=K) 2 fr rs.length (fun i=>(rs.mapIdx g).take i) gn rfl (fun i=>aag (length_take_le' _ _) (by rw [length_mapIdx];exact hn)) (fun H' s=>⟨xs,me (s.seq hl),aaa⟩) (fun i H' hi s=>⟨xs,xs[i]' aaa,me (s.seq hl),aat aaa⟩) (fun i x H' H2 own ho hi s hy Qy Qn ky kn=>?_) (fun l2 H' ys a b c d=>hQ l2 H' ys a b c (by rw [aaU (by rw [length_mapIdx];exact aah _)] at d;exact d))
 obtain ⟨o1,o2,rfl⟩:∃ o1 o2,own=[o1,o2]:=by match own,ho with|[o1,o2],_=>exact⟨o1,o2,rfl⟩
 obtain ⟨q,x',rfl,hq,e1,rfl⟩:=hy
 obtain ⟨a,r,rfl,ha,yr⟩:=hr.get (e1 xs (me (s.seq hl)))
 have s2:=aj.aZ (o:=.tup [.int (i:Nat),.ref a]) hq
 refine⟨q,_,rfl,aC.of aw,rfl,_,_,rfl,_,_,rfl,rfl,?_⟩
 show ite (true=true) _ _
 rw [if_pos rfl]
 refine elt i a r _ _ yr (s.trans s2) ((s.trans s2).at ha) fun p H5 s5 hp=>ky [some (.int i),some (.ref a)] p (g i r) H5 rfl (s2.trans s5) hp ?_
 rw [take_add_one,List.getElem?_mapIdx,yr]
 rfl
theorem Dh{tt:TT}{te:TE}{r:List Int}(fr:St)(f:Nat->Bool)(gn:pick ix σ=none::none::fr)(hl:aC K H l (r.map V.int))(hn:r.length<=1000)
  (Zv:∀ (i:Nat) (H':Hp) (Qt:Bool->Hp->Prop),i<r.length->aj H H'->Qt (f i) H'->tt (some (.int i)::some (.int (r.getD i 0))::fr) H' Qt)
  (elt:∀ (i:Nat) (H':Hp) (Qc:VK),aj H H'->Qc (.int i) H'->te (some (.int i)::some (.int (r.getD i 0))::fr) H' Qc)
  (hQ:∀ l2 H',H l2=none->aj H H'->H' l2=some (.lst ((((List.range r.length).filter f).map fun (i:Nat)=>(i:Int)).map V.int))->Q (.ref l2) H'):aV ix (wd K 2 (eS (bu 0) (eS (bu 1) yd))) tt te σ Q (Rr K true l) H:=by
 refine jG 2 fr r.length (fun l i ys H'=>ys=(((List.range i).filter f).map fun (i:Nat)=>(i:Int)).map V.int/\i<=r.length) gn (fun l H' _ _ _=>⟨rfl,aa0 _⟩) (fun l i ys H' h=>by rw [h.1,aaz,aaz];exact aag (aa4 _ _) (by rw [aaL];lia)) (fun H' s=>⟨_,gR (s.at hl),by simp⟩) (fun i H' hi s=>⟨_,_,gR (s.at hl),int_at hi⟩) (fun l' i x H' H2 own ys ho hi Vk s fE hp hy Qy Qn ky kn=>?_) (fun l2 H' ys a b c d=>hQ l2 H' a b (by rw [c,d.1]))
 obtain ⟨o1,o2,rfl⟩:∃ o1 o2,own=[o1,o2]:=by match own,ho with|[o1,o2],_=>exact⟨o1,o2,rfl⟩
 obtain ⟨q,x',rfl,hq,e1,rfl⟩:=hy
 obtain ⟨rfl,_⟩:=dW (e1 _ (gR (s.at hl)))
 have s2:=aj.aZ (o:=.tup [.int (i:Nat),.int (r.getD i 0)]) hq
 refine⟨q,_,rfl,aC.of aw,rfl,_,_,rfl,_,_,rfl,rfl,?_⟩
 refine Zv i _ _ hi (s.trans s2) ?_
 cases ef:f i with
 | true =>
  rw [if_pos rfl]
  refine elt i _ _ (s.trans s2) (ky [some (.int i),some (.int (r.getD i 0))] _ _ rfl s2 ⟨?_,hi⟩)
  rw [range_succ,filter_append,hp.1]
  simp [ef]
 | false =>
  rw [if_neg aa8]
  refine kn [some (.int i),some (.int (r.getD i 0))] _ rfl s2 ⟨?_,hi⟩
  rw [range_succ,filter_append,hp.1]
  simp [ef]
end
end L2
namespace HT
open PySem PySem.Spec PyProof.Rows
section
variable {prog:Program}{w:World}{A:Around}{E:Value->Shared->Prop}{s:Shared}
theorem nM{t sl:Addr}{items:Array Value}{vl vu:Value}{lo hi:Option Int}{Q:Value->Shared->Prop}(ht:IsTup s.heap t items)(Q6:s.heap.IsSliceOf sl vl vu .none)(pl:IsPart vl lo)(pu:IsPart vu hi)
  (hw:dh items.size 0 lo=0/\dh items.size items.size hi=items.size) (h:Q (.ref t) s):wpAny (model prog w) A (getItem (.ref t) (.ref sl)) Q E s:=by
 obtain ⟨os,PZ,Tc,Uh⟩:=id Q6
 have Yk:s.TypeIs (.ref sl) "slice":=⟨os,PZ,Tc⟩
 unfold getItem
 try with_reducible refine wpAny_holding ?_
 first|refine aac (aap ?_)|skip
 refine aac (wpAny_sequenceKey ht.typeIs aa8 ?_)
 refine aac (wpAny_callSpecial?_slot (name:=Str.ofString "__getitem__") ht.typeIs PyProof.Rows.slot_tuple_getitem
  (wpAny_call_entry PyProof.Rows.slot_tuple_getitem ht.typeIs entry_tuple_getitem ?_ (args_tuple_getitem _ _)))
 show wpAny _ _ (Builtin.Tuple.tupleItemsOf (.ref t) >>= _) _ _ s
 refine aac (tupleItemsOf_ ht ?_)
 refine aac (wpAny_typeOf Yk ?_)
 rw [if_pos aa8]
 refine aac (il Q6 pl pu ?_)
 have Zw:(((dh items.size 0 lo:Nat):Int) == 0 && (1:Int) == 1 && (dh items.size items.size hi - dh items.size 0 lo) == items.size)=true:=by
  rw [hw.1,hw.2]
  simp
 show wpAny _ _ (if (((dh items.size 0 lo:Nat):Int) == 0 && (1:Int) == 1 && (dh items.size items.size hi - dh items.size 0 lo) == items.size)=true then _ else _) _ _ s
 rw [if_pos Zw]
 refine aac ?_
 unfold Builtin.Tuple.tupleIsExact
 refine aac (wpAny_typeOf ht.typeIs (aap ?_))
 rw [if_pos aa8]
 refine aac (wpAny_rule ?_)
 first
  | exact aap ⟨_,rfl,aap h⟩
  | exact aac (aap (aap ⟨_,rfl,aap h⟩))
end
end HT
namespace L2
open PySem PySem.Spec PyProof.Rows
section
variable {X:Cx}{K:Frag}{H:Hp}{Q:VK}
def Rz(K:Frag):V->Option Int->Option Int->Hp->VK->Prop:=fun x lo hi H Q=>∃ a xs,x=.ref a/\aC K H a xs/\((HT.dh xs.length 0 lo=0/\HT.dh xs.length xs.length hi=xs.length/\Q (.ref a) H)\/Ui K x lo hi H Q)
theorem Nl:P0 X (Rz X.K):=by
 intro pins s σ H x v vl vu lo hi sl Q I rx hs pl pu h
 obtain ⟨a,xs,rfl,hx,⟨h1,h2,q⟩|h⟩:=h
 ·cases rx
  obtain ⟨its,r,ht,hz⟩:=I.tuple hx
  have hlen:its.toArray.size=xs.length:=by rw [aaP];exact r.length.symm
  refine⟨"tuple",_,PyProof.Rows.slot_tuple_getitem.lookup,ht.typeIs,?_⟩
  exact HT.nM ht hs pl pu (by rw [hlen];exact⟨h1,h2⟩) ⟨.ref a,H,I,rfl,q⟩
 ·exact P1 pins s σ H _ v vl vu lo hi sl Q I rx hs pl pu h
theorem nN(K:Frag)(hK:X.K=K):P0 X (Rz K):=hK ▸ Nl
theorem E3{a:Addr}{xs:List V}{lo hi:Option Int}(e:aC K H a xs)(h:∀ p H2,aj H H2->aC K H2 p (lB xs lo hi)->Q (.ref p) H2):Rz K (.ref a) lo hi H Q:=by
 refine⟨a,xs,rfl,e,?_⟩
 by_cases c:HT.dh xs.length 0 lo=0/\HT.dh xs.length xs.length hi=xs.length
 ·refine .inl ⟨c.1,c.2,h a H (aj.refl _) ?_⟩
  have:lB xs lo hi=xs:=by
   unfold lB
   rw [c.1,c.2,sub_zero,List.drop_zero,aaN]
  rw [this]
  exact e
 ·exact .inr ⟨a,xs,rfl,e,c,fun p hp=>h p _ (aj.aZ hp) (aC.of aw)⟩
end
def E4:Stmt->Nat->Stmt
 | .ClassDef _ _ _ body _ _ _ _ _ _ _,j=>body.getD j (.Pass ⟨0,0,0,0⟩)
 | s,_=>s
def Bf(K:Frag)(f:Addr)(x qual:Str)(st:Stmt)(ps:List Str):Prop:=∃ fd,Ms K x qual st f fd/\Binds K fd ps []
def Zx(P:Program)(w:World)(K:Frag)(mg:Str->Option Value)(base:Heap)(k:Nat)(f:Addr)(ps:List Str)(sp:Sp):Prop :=
 ∃ fd,lh P w K mg base CJ k f fd ps sp/\PySem.W.keepIn K (.ref f)=true/\Binds K fd ps []
section
variable {P:Program}{w:World}{K:Frag}{mg:Str->Option Value}{base:Heap}
theorem Bf.ok{fa:Addr}{x qual:Str}{st:Stmt}{N ps:List Str}{k:Nat}{sp:Sp}(D:Bf K fa x qual st ps)(S:ao N ps (al st))(len:∀ vs H Q E,sp vs H Q E->vs.length=ps.length)
  (di:∀ (f:Addr) (bf:Value) (A:Around) (outer:List Env) (s:Shared) (H:Hp) (vs:List V) (Q:VK) (E:XK),bK k (A.deeper (envOfC qual (al st) s.heap.objs.size f bf))->sp vs H Q E ->
   ∃ t,oB (gP CJ P w K mg base N qual (al st) f bf A outer s H E).Cp (bw st) t/\t { nx:=fun _ H'=>Q .cJ H',rt:=Q } (start N vs) H):Zx P w K mg base (k+1) fa ps sp:=by
 obtain ⟨fd,F,hb⟩:=D
 exact⟨fd,F.ok S len fun bf A outer s H vs Q E hr h=>di fa bf A outer s H vs Q E hr h,F.kp,hb⟩
end
section
variable {X:Cx}{k:Nat}{f C:Addr}{x m:Str}{ps:List Str}{sp:Sp}{p pos apos:Pos}{e o:Expr}{es:List Expr}{ta:TE}{t:TA}
theorem gz{f:Str}(K:Frag)(hK:X.K=K)(he:PE X e ta)(hb:attributeBase e f X.env (eval e X.env)=eval e X.env):PE X (.Attribute e f pos) (PL K ta f):=hK ▸ PN he hb
theorem kM{f:Str}{value:Expr}{pos':Pos}{tv:TE}(K:Frag)(hK:X.K=K)(ha:PE X o ta)(hv:PE X value tv)(hs:swapsWith value (some (.Attribute o f pos')) pos.line X.env=pure false):PS X (.Assign [.Attribute o f pos'] value pos) (PM K ta tv f):=hK ▸ PQ ha hv hs
end
section
variable {K:Frag}{H:Hp}{σ:St}{Q:VK}{D:Ends}{ta tv:TE}{t:TA}{C:Addr}{m f:Str}{sp:Sp}{x:V}
def VM(C:Addr)(sp:Sp)(Q:VK)(vs:List V)(H1:Hp):Prop:=∀ x dx,H1 x=none->H1 dx=none->dx≠x->sp (.ref x::(vs++[])) (upd (upd H1 dx (.own x)) x (.ins C dx [])) (fun v H2=>v=.cJ/\Q (.ref x) H2) E0
theorem RA(h:t σ H fun vs H1=>VM C sp Q vs H1):Ig C sp [] E0 t σ H Q:=h
def VN(K:Frag)(f:Str)(Q:VK)(x:V)(H1:Hp):Prop:=∃ a C dx fs v,x=.ref a/\H1 a=some (.ins C dx fs)/\Er K C/\dR K C f/\fs.lookup f=some v/\Q v H1
theorem VO(h:ta σ H fun x H1=>VN K f Q x H1):PL K ta f σ H Q:=h
theorem RC(e:H a=some (.ins C dx fs))(c:Er K C)(n:dR K C f)(l:fs.lookup f=some v)(h:Q v H):VN K f Q (.ref a) H:=⟨a,C,dx,fs,v,rfl,e,c,n,l,h⟩
def OW(K:Frag)(f:Str)(D:Ends)(σ:St)(y:V)(x:V)(H2:Hp):Prop:=∃ a C dx fs,x=.ref a/\H2 a=some (.ins C dx fs)/\Er K C/\dR K C f/\fs.length<1000/\D.nx σ (upd H2 a (.ins C dx (d9 f y fs)))
theorem RD(h:tv σ H fun y H1=>ta σ H1 fun x H2=>OW K f D σ y x H2):PM K ta tv f D σ H:=h
theorem kN(e:H a=some (.ins C dx fs))(c:Er K C)(n:dR K C f)(l:fs.length<1000)(h:D.nx σ (upd H a (.ins C dx (d9 f y fs)))):OW K f D σ y (.ref a) H:=⟨a,C,dx,fs,rfl,e,c,n,l,h⟩
end
section
variable {K:Frag}{H:Hp}{σ:St}{Q:VK}{ix:List (Option Nat)}
theorem Nn{k1 k2:Bool}{a b:Addr}{r q:List Int}(gn:pick ix σ=[none,none])(ha:Sq k1 K H a (r.map V.int))(hb:Sq k2 K H b (q.map V.int))(hlen:q.length<=r.length)(hn:r.length<=1000)(hm:∀ i,i<q.length->c7 (r.getD i 0) (q.getD i 0))
  (hQ:∀ l H',H l=none->aj H H'->H' l=some (.lst ((List.zipWith (·*·) r q).map V.int))->Q (.ref l) H') :
  aV ix (wd K 2 (eS (bu 0) (eS (bu 1) yd))) (fun _ H Q=>Q true H) (HW (rI c7 fun i j=>.int (i*j)) (sV 0) (sV 1)) σ Q (Mx K k1 k2 a b) H:=by
 have lz:(List.zipWith (·*·) r q).length=q.length:=by rw [List.length_zipWith];lia
 refine jG 2 [] q.length (fun l i ys H'=>ys=((List.zipWith (·*·) r q).take i).map V.int/\i<=q.length) gn (fun l H' _ _ _=>⟨rfl,aa0 _⟩) (fun l i ys H' h=>by rw [h.1,aaz,aaO];lia) (fun H' s=>⟨_,_,s.sq ha,s.sq hb,.inr (by simp)⟩) (fun i H' hi s=>⟨_,_,_,_,s.sq ha,s.sq hb,int_at aaa,int_at hi⟩) (fun l' i x H' H2 own ys ho hi Vk s fE hp hy Qy Qn ky kn=>?_) (fun l2 H' ys a b c d=>hQ l2 H' a b (by rw [c,d.1,aaU aaa]))
 obtain ⟨o1,o2,rfl⟩:∃ o1 o2,own=[o1,o2]:=by match own,ho with|[o1,o2],_=>exact⟨o1,o2,rfl⟩
 obtain ⟨p,x',y',rfl,hq,e1,e2,rfl⟩:=hy
 obtain ⟨rfl,_⟩:=dW (e1 _ (s.sq ha))
 obtain ⟨rfl,_⟩:=dW (e2 _ (s.sq hb))
 have s2:=aj.aZ (o:=.tup [.int (r.getD i 0),.int (q.getD i 0)]) hq
 refine⟨p,_,rfl,aC.of aw,rfl,_,_,rfl,_,_,rfl,rfl,?_⟩
 show ite (true=true) _ _
 rw [if_pos rfl]
 refine⟨_,rfl,_,rfl,_,_,rfl,rfl,hm i hi,?_⟩
 refine ky [some (.int (r.getD i 0)),some (.int (q.getD i 0))] _ _ rfl s2 ⟨?_,hi⟩
 rw [hp.1,take_add_one,aaR]
 congr 1
 have:(List.zipWith (·*·) r q)[i]?=some (r.getD i 0*q.getD i 0):=by
  rw [getElem?_zipWith,aat (show i<r.length by lia),aat hi,List.getD,List.getD,aat (show i<r.length by lia),aat hi]
  rfl
 rw [this]
 rfl
theorem lM{n:Nat}(fr:St)(f:Nat->List Int)(gn:pick ix σ=none::fr)(hn:n<=1000)(elt:∀ (i:Nat) (H':Hp) (Qc:VK),i<n->aj H H'->(∀ p H5,aj H' H5->aC K H5 p ((f i).map V.int)->Qc (.ref p) H5)->te (some (.int (i:Int))::fr) H' Qc)(hQ:∀ l H' ys,H l=none->aj H H'->H' l=some (.lst ys)->az K H' ys ((List.range n).map f)->Q (.ref l) H'):aV ix (bu 0) (fun _ H Q=>Q true H) te σ Q (Fw 0 n) H:=by
 refine jG 1 fr n (fun l i ys H'=>az K H' ys ((List.range i).map f)/\i<=n) gn (fun l H' _ _ _=>⟨.nil,aa0 _⟩) (fun l i ys H' h=>by rw [<- h.1.length];simp;lia) (fun H' s=>aah _) (fun i H' hi s=>hi) (fun l i x H' H2 own ys ho hi Vk s fE hp hy Qy Qn ky kn=>?_) (fun l H' ys a b c d=>hQ l H' ys a b c d.1)
 obtain ⟨o1,rfl⟩:∃ o1,own=[o1]:=by match own,ho with|[o1],_=>exact⟨o1,rfl⟩
 obtain ⟨rfl,rfl⟩:=hy
 dsimp only [bu]
 rw [if_pos rfl,Int.zero_add]
 refine elt i _ _ hi s fun p H5 s5 Zu=>ky [some (.int i)] _ H5 rfl s5 ⟨?_,hi⟩
 rw [range_succ,aaR]
 exact ((hp.1.same s5).off (s5 _ _ fE)).snoc (fm Zu (s5 _ _ fE))
end
section
variable {K:Frag}{H:Hp}{σ:St}{Q:VK}{ix:List (Option Nat)}
theorem yY{n:Nat}(fr:St)(P:Nat->List Int×Int->Prop)(gn:pick ix σ=none::fr)(hn:n<=1000)(elt:∀ (i:Nat) (H':Hp) (Qc:VK),i<n->aj H H'->(∀ p w k H5,aj H' H5->aC K H5 p [.ref w,.int k.2]->aC K H5 w (k.1.map V.int)->P i k->Qc (.ref p) H5)->te (some (.int (i:Int))::fr) H' Qc)(hQ:∀ l H' ys ks,H l=none->aj H H'->H' l=some (.lst ys)->aY K H' ys ks->ks.length=n->(∀ i k,ks[i]?=some k->P i k)->Q (.ref l) H'):aV ix (bu 0) (fun _ H Q=>Q true H) te σ Q (Fw 0 n) H:=by
 refine jG 1 fr n (fun l i ys H'=>∃ ks,aY K H' ys ks/\ks.length=i/\i<=n/\∀ j k,ks[j]?=some k->P j k) gn (fun l H' _ _ _=>⟨[],.nil,rfl,aa0 _,fun j k h=>by simp at h⟩) (fun l i ys H' h=>by obtain ⟨ks,h1,h2,h3,_⟩:=h;rw [<- h1.length];lia) (fun H' s=>aah _) (fun i H' hi s=>hi) (fun l i x H' H2 own ys ho hi Vk s fE hp hy Qy Qn ky kn=>?_) (fun l H' ys a b c d=>by obtain ⟨ks,h1,h2,_,h4⟩:=d;exact hQ l H' ys ks a b c h1 h2 h4)
 obtain ⟨ks,h1,h2,h3,h4⟩:=hp
 obtain ⟨o1,rfl⟩:∃ o1,own=[o1]:=by match own,ho with|[o1],_=>exact⟨o1,rfl⟩
 obtain ⟨rfl,rfl⟩:=hy
 dsimp only [bu]
 rw [if_pos rfl,Int.zero_add]
 refine elt i _ _ hi s fun p w k H5 s5 hp hw hk=>ky [some (.int i)] _ H5 rfl s5 ⟨ks++[k],((h1.same s5).off (s5 _ _ fE)).snoc (fm hp (s5 _ _ fE)) (fm hw (s5 _ _ fE)),by simp [h2],hi,fun j q hj=>?_⟩
 rw [List.getElem?_append] at hj
 split at hj
 ·exact h4 j q hj
 ·rename_i OF
  have:j=ks.length:=by
   have:=(aad.mp hj).1
   simp at this
   lia
  subst this
  simp at hj
  rw [<- hj,h2]
  exact hk
theorem lN(fr:St)(f:List Int×Int->Bool)(gn:pick ix σ=none::fr)(hl:aP K H l xs)(hk:aY K H xs ks)(hn:ks.length<=1000)(Zv:∀ (a w:Addr) (k:List Int×Int) (H':Hp) (Qt:Bool->Hp->Prop),k∈ks->aj H H'->aC K H' a [.ref w,.int k.2]->aC K H' w (k.1.map V.int)->(∀ H5,aj H' H5->Qt (f k) H5)->tt (some (.ref a)::fr) H' Qt)(elt:∀ (a:Addr) (H':Hp) (Qc:VK),aj H H'->Qc (.ref a) H'->te (some (.ref a)::fr) H' Qc)(hQ:∀ l2 H' ys,H l2=none->aj H H'->H' l2=some (.lst ys)->aY K H' ys (ks.filter f)->Q (.ref l2) H'):aV ix (bu 0) tt te σ Q (LJ K l) H:=by
 have hlen:=hk.length
 refine jG 1 fr ks.length (fun l i ys H'=>aY K H' ys ((ks.take i).filter f)) gn (fun l H' _ _ _=>.nil) (fun l i ys H' h=>by rw [<- h.length];exact aag (aa4 _ _) (aag (length_take_le' _ _) hn)) (fun H' s=>⟨xs,s.seq hl,aaa⟩) (fun i H' hi s=>⟨xs,xs[i]' aaa,s.seq hl,aat aaa⟩) (fun l' i x H' H2 own ys ho hi Vk s fE hp hy Qy Qn ky kn=>?_) (fun l2 H' ys a b c d=>hQ l2 H' ys a b c (by rw [aaN] at d;exact d))
 obtain ⟨o1,rfl⟩:∃ o1,own=[o1]:=by match own,ho with|[o1],_=>exact⟨o1,rfl⟩
 obtain ⟨rfl,e⟩:=hy
 obtain ⟨a,w,k,rfl,h1,h2,h3⟩:=hk.get (e xs (s.seq hl))
 have iK:k∈ks:=aay h3
 have et:ks.take (i+1)=ks.take i++[k]:=by rw [take_add_one,h3];rfl
 refine Zv a w k _ _ iK s (s.at h1) (s.at h2) fun H5 s5=>?_
 cases ef:f k with
 | true =>
  rw [if_pos rfl]
  refine elt a _ _ (s.trans s5) (ky [some (.ref a)] _ H5 rfl s5 ?_)
  rw [et,filter_append]
  simp only [filter_cons,ef,List.filter_nil,if_true]
  exact ((hp.same s5).off (s5 _ _ fE)).snoc (fm ((s.trans s5).at h1) (s5 _ _ fE)) (fm ((s.trans s5).at h2) (s5 _ _ fE))
 | false =>
  rw [if_neg aa8]
  refine kn [some (.ref a)] _ rfl s5 ?_
  rw [et,filter_append]
  simp only [filter_cons,ef,List.filter_nil]
  simpa using hp.same s5
end
end L2
namespace L2
open PySem PySem.Spec PyProof.Rows PySem.W
theorem Gs{Pr:Program}{w:World}{K:Frag}{mg mb:Str->Option Value}{CX:CB}{k:Nat}{fa a:Addr}{fd:FuncData}{x:Str}{sp:Sp}{s₁:Shared}{vs:List Value}{ns:List Int}{tabs:List (Addr×Addr)}
  (hT:TabsAt tabs s₁.heap) (hKt:∀ q∈tabs,K.lookup q.2=none)
  (Xz:∃ bm ob,mg "__builtins__"=some (.ref bm)/\bm≠builtinsNs/\s₁.heap.get? bm=some ob/\ob.cls=.type "module"/\ob.dict=some builtinsNs/\ob.data=.plain)
  (hse:s₁.heap.NoSeer) (KX:K.In s₁.heap) (Tl:s₁.heap.Ns mainGlobals mg) (hb:s₁.heap.Ns builtinsNs mb) (hbb:∀ x:Str,x≠"__name__"->mb x=bootBuiltins x) (Zy:s₁.heap.NoLimit) (hg:s₁.gens=#[])
  (ha:s₁.heap.get? a=some { cls:=.type "list",data:=.seq vs.toArray }) (hi:IntsAre vs ns) (hl:ns.length<=sizeLine) (hr:bK k callerA)
  (F:∀ base:Heap,K.In base->base.Ns mainGlobals mg->(∀ q∈tabs,CodeHd base q.1 q.2/\base.BuiltinsAt mg q.2)->base.NoSeer->lh Pr w K mg base CX k fa fd [x] sp) (tZ:∀ (s:Shared) (u:Value),BindsTo s fd ⟨[u],[]⟩ [(x,u)])
  (lX:∀ H:Hp,Kd tabs H->aP K H a (ns.map V.int)->sp [.ref a] H (fun v _=>v=.bl true) fun _ _ _=>False)
  (hCX:∀ H e s',CX [] H s₁ (fun _ _ _=>False) e s'->False) :
  codeAny (model Pr w) callerA (.call (.ref fa) ⟨[.ref a],[]⟩) (fun r s'=>r=.ok (.ret (.bool true))/\OldK s₁.heap s'.heap/\s'.os=s₁.os/\AllBare s'.gens) s₁:=by
 have rv:=xv hi
 have Zz:=hi.length
 have naT:∀ q∈tabs,q.2≠a:=fun q hq z=>by
  have e:=(hT q hq).2
  rw [z,ha] at e
  cases e
 have core:∀ H:Hp,(∀ b u,H b=some u->(b=a/\K.lookup a=none/\∃ xs,u=.wb { cls:=.type "list",data:=.seq vs.toArray } (.lst xs))\/∃ q∈tabs,q.2=b/\u=.sR #[])->Kd tabs H->aP K H a (ns.map V.int)->gO Pr w H s₁.heap ->
   codeAny (model Pr w) callerA (.call (.ref fa) ⟨[.ref a],[]⟩) (fun r s'=>r=.ok (.ret (.bool true))/\OldK s₁.heap s'.heap/\s'.os=s₁.os/\AllBare s'.gens) s₁:=by
  intro H hA h0 hS bh
  have nO:∀ {b:Addr} {o:Obj},s₁.heap.get? b=some o->H b=none->(rC s₁.heap H).get? b=some o:=fun e n=>HK e n
  have XA:∀ {b:Addr} {o:Obj},s₁.heap.get? b=some o->(∀ v n,o.data≠.seq v n)->(∀ v,o.data=.fields v->o.cls≠.none)->H b=none:=fun {b o} e d d2=>by
   cases q:H b with
   | none=>rfl
   | some u =>
    rcases hA b u q with ⟨rfl,_⟩|⟨t,ht,rfl,_⟩
    ·rw [ha] at e
     cases e
     exact absurd rfl (d _ _)
    ·rw [(hT t ht).2] at e
     cases e
     exact absurd rfl (d2 _ rfl)
  have Ue:∀ {b:Addr} {o:Obj} {es:Array DictEntry} {ep:Nat},s₁.heap.get? b=some o->o.data=.dict es ep->H b=none:=fun e d=>XA e (fun v n z=>by rw [d] at z;cases z) fun v z=>by rw [d] at z;cases z
  have OX:∀ {b:Addr} {m:Str->Option Value},s₁.heap.Ns b m->(rC s₁.heap H).Ns b m:=fun {b m} ⟨o,es,ep,e,d,r⟩=>⟨o,es,ep,nO e (Ue e d),d,r⟩
  have hKb:K.In (rC s₁.heap H):=fun b o e=>nO (KX b o e) (by
   cases q:H b with
   | none=>rfl
   | some u =>
    rcases hA b u q with ⟨rfl,z,_⟩|⟨t,ht,rfl,_⟩
    ·rw [z] at e;cases e
    ·rw [hKt t ht] at e;cases e)
  have hM:Mod K mg (rC s₁.heap H):=⟨hKb,OX Tl,⟨mb,OX hb,hbb⟩,let ⟨mc,h1,h2⟩:=Zy;⟨mc,OX h1,h2⟩⟩
  have hTb:∀ q∈tabs,CodeHd (rC s₁.heap H) q.1 q.2/\(rC s₁.heap H).BuiltinsAt mg q.2:=fun q hq=>by
   refine⟨?_,?_⟩
   ·obtain ⟨o,Xr,file,tf,flags,tg,inF,text,tt,e1,e2,e3,r⟩:=(hT q hq).1
    exact⟨o,Xr,file,tf,flags,tg,inF,text,tt,nO e1 (XA e1 (fun v n z=>by rw [e3] at z;cases z) fun v _ z=>by rw [e2] at z;cases z),e2,e3,r⟩
   ·obtain ⟨bm,ob,b1,b2,b3,b4,b5,b6⟩:=Xz
    refine⟨bm,ob,b1,b2,fun z=>?_,fun z=>?_,nO b3 (XA b3 (fun v n z=>by rw [b6] at z;cases z) fun v z=>by rw [b6] at z;cases z),b4,b5,b6⟩
    ·obtain ⟨o,es,ep,e,hd,_⟩:=Tl
     rw [z,e] at b3;cases b3;rw [hd] at b6;cases b6
    ·rw [z,(hT q hq).2] at b3;cases b3;cases b4
  have hSb:(rC s₁.heap H).NoSeer:=⟨let ⟨mc,a,b⟩:=hse.statics;⟨mc,OX a,b⟩,let ⟨mm,a,b⟩:=hse.mods;⟨mm,OX a,b⟩,⟨mb,OX hb,hbb⟩,let ⟨bm,ob,b1,b2,b3,b4,b5,b6⟩:=Xz;⟨mg,bm,ob,OX Tl,b1,nO b3 (XA b3 (fun v n z=>by rw [b6] at z;cases z) fun v z=>by rw [b6] at z;cases z),b4,b5⟩⟩
  have e0:rE Pr w K mg (rC s₁.heap H) callerA [] s₁ H:=⟨rfl,hM,fun b o e=>LW e,le_of_eq (Fs _ _),trivial,fun b hb=>absurd (show b∈([]:List Addr) from hb) (by simp),bh,.of_eq hg⟩
  refine codeAny_mono ((F _ hKb (OX Tl) hTb hSb).run callerA [] s₁ H ⟨[.ref a],[]⟩ [.ref a] [.ref a] _ _ hr e0 (tZ s₁ (.ref a)) (.cons rfl .nil) (lX H h0 hS)) fun r s' h=>?_
  cases r with
  | error e=>exact (hCX H e s' h).elim
  | ok fl =>
   cases fl with
   | next=>exact False.elim h
   | brk=>exact False.elim h
   | cont=>exact False.elim h
   | ret u =>
    obtain ⟨v,H',os,bare,un,VP,r',q⟩:=h
    have q':v=.bl true:=q
    subst q'
    obtain rfl:u=Value.bool true:=r'
    have was:∀ b o,s₁.heap.get? b=some o->asItWas s₁.heap s'.heap b o/\∃ o',s'.heap.get? b=some o':=fun b o e=>by
     cases q:H b with
     | none =>
      have z:=un.keep b o e q (by intro z;exact absurd (show b∈([]:List Addr) from z) (by simp)) (by simp)
      exact⟨.inl z,_,z⟩
     | some u =>
      rcases hA b u q with ⟨rfl,_,xs,rfl⟩|⟨t,ht,rfl,rfl⟩
      ·have z2:=un.k8 b _ _ q
       obtain ⟨e1,_⟩:=bh b _ q
       obtain ⟨e2,_⟩:=VP b _ z2
       rw [e] at e1;cases e1
       exact⟨.inl e2,_,e2⟩
      ·obtain ⟨more,z2⟩:=un.k9 t.2 _ q
       have e2:s'.heap.get? t.2=some { cls:=.none,data:=.fields (#[]++more) }:=VP t.2 _ z2
       have e1:=(hT t ht).2
       rw [e] at e1
       cases e1
       exact⟨.inr (.inl ⟨((hT t ht).1.tab (hT t ht).2).isCodeTable,rfl,#[],more,rfl,e2⟩),_,e2⟩
    exact⟨rfl,⟨fun b o e=>(was b o e).1,fun b o e=>(was b o e).2⟩,os,bare⟩
 have OY:∀ (H:Hp) q,q∈tabs->cv Pr w H s₁.heap q.2 (.sR #[]):=fun H q hq=>(hT q hq).2
 cases hk:K.lookup a with
 | some o =>
  have e:=KX a o hk
  rw [ha] at e
  cases e
  refine core (fun b=>if (tabs.any fun q=>q.2 == b)=true then some (.sR #[]) else none) (fun b u z=>?_) (fun q hq=>if_pos (any_eq_true.mpr ⟨q,hq,by simp⟩)) (.inr ⟨_,vs.toArray,_,hk,rfl,rfl,rfl,by rw [aaP,Zz];exact hl,by simpa using rv⟩) (fun b u z=>?_)
  ·by_cases hb:(tabs.any fun q=>q.2 == b)=true
   ·have z':=(if_pos hb).symm.trans z
    cases z'
    obtain ⟨q,hq,e⟩:=any_eq_true.mp hb
    exact .inr ⟨q,hq,beq_iff_eq.mp e,rfl⟩
   ·have z':=(if_neg hb).symm.trans z
    cases z'
  ·by_cases hb:(tabs.any fun q=>q.2 == b)=true
   ·have z':=(if_pos hb).symm.trans z
    cases z'
    obtain ⟨q,hq,e⟩:=any_eq_true.mp hb
    rw [<- beq_iff_eq.mp e]
    exact OY _ q hq
   ·have z':=(if_neg hb).symm.trans z
    cases z'
 | none =>
  have aT:¬ (tabs.any fun q=>q.2 == a)=true:=fun z=>by
   obtain ⟨q,hq,e⟩:=any_eq_true.mp z
   exact naT q hq (beq_iff_eq.mp e)
  obtain ⟨H,hH⟩:∃ H:Hp,H=fun b=>if (tabs.any fun q=>q.2 == b)=true then some (.sR #[]) else if b=a then some (.wb { cls:=.type "list",data:=.seq vs.toArray } (.lst (ns.map V.int))) else none:=⟨_,rfl⟩
  have C4:H a=some (.wb { cls:=.type "list",data:=.seq vs.toArray } (.lst (ns.map V.int))):=by
   rw [hH]
   show (if _ then _ else _)=_
   rw [if_neg aT,if_pos rfl]
  have hHt:Kd tabs H:=fun q hq=>by
   rw [hH]
   exact if_pos (any_eq_true.mpr ⟨q,hq,by simp⟩)
  have all:∀ b u,H b=some u->(b=a/\u=.wb { cls:=.type "list",data:=.seq vs.toArray } (.lst (ns.map V.int)))\/∃ q∈tabs,q.2=b/\u=.sR #[]:=fun b u z=>by
   rw [hH] at z
   have z:(if (tabs.any fun q=>q.2 == b)=true then some (HO.sR #[]) else if b=a then some (.wb { cls:=.type "list",data:=.seq vs.toArray } (.lst (ns.map V.int))) else none)=some u:=z
   by_cases hb:(tabs.any fun q=>q.2 == b)=true
   ·rw [if_pos hb] at z
    cases z
    obtain ⟨q,hq,e⟩:=any_eq_true.mp hb
    exact .inr ⟨q,hq,beq_iff_eq.mp e,rfl⟩
   ·rw [if_neg hb] at z
    by_cases h2:b=a
    ·rw [if_pos h2] at z
     cases z
     exact .inl ⟨h2,rfl⟩
    ·rw [if_neg h2] at z
     cases z
  refine core H (fun b u z=>(all b u z).imp (fun ⟨e,eu⟩=>⟨e,hk,_,eu⟩) id) hHt (.inl (.inr ⟨_,C4⟩)) fun b u z=>?_
  rcases all b u z with ⟨rfl,rfl⟩|⟨q,hq,rfl,rfl⟩
  ·exact⟨ha,by rw [aaz];exact hl,vs,_,rv,ha⟩
  ·exact OY _ q hq
theorem Kf{l:OpenLaw}{k:Nat}{pq:Program}{loose:List Str}{XP:(Str->Option Value)->Heap->Prop}{YP:World->Heap->Prop}{d:DefRec}{K:Params->Frag}{x:Str}{c P:Addr}(y:Str)(lp:Pos)(q:Str)
  (hi:importsNone pq=true) (hn:l.most=some 63) (Yn:d.params.defaults=[]) (hr:bK k callerA)
  (hY:∀ (w:World) (h:Heap),YP w h->(K w.params).In h/\h.get? P=some (tabObj #[])) (ht:∀ w:World,tabIn (K w.params) y=some (c,P)) (hh:∀ w:World,codeHdIn (K w.params) c P=true) (hk:∀ w:World,(K w.params).lookup P=none)
  (F:∀ (w:World) (mg:Str->Option Value) (fa:Addr) (h:Heap),(K w.params).In h->h.Ns mainGlobals mg->mg d.name=some (.ref fa)->tabIn (K w.params) y=some (c,P) ->
   ∃ fd:FuncData,(∀ (s:Shared) (u:Value),BindsTo s fd ⟨[u],[]⟩ [(x,u)]) /\
    ∀ base:Heap,(K w.params).In base->base.Ns mainGlobals mg->CodeHd base c P->base.BuiltinsAt mg P->base.NoSeer->lh l.prog w (K w.params) mg base CJ k fa fd [x] (Df y lp q (K w.params))) :
  PySem.W.WalkO pq loose XP YP l.row.toRowW d [] (fun f vs=>PySem.call f vs):=by
 refine Att.Ao hn Yn fun w s₀ s₁ mg mb fa o pm cd doc a vs ns G Y ho hd lS Ut Qe hints hlen hg=>?_
 obtain ⟨KX,hP⟩:=hY w _ Y
 obtain ⟨fd,hb,hF⟩:=F w mg fa _ KX G.T.g Ut (ht w)
 refine Gs (tabs:=[(c,P)]) (fun t h1=>?_) (fun t h1=>?_) G.T.bmain (G.T.seer hi) KX G.T.g G.T.b G.T.builtins G.T.nolimit hg Qe hints (aag hlen aa8) hr (fun base b1 b2 b3 b4=>hF base b1 b2 (b3 (c,P) (.head _)).1 (b3 (c,P) (.head _)).2 b4) hb (fun H hO hS=>⟨a,ns,rfl,hS,hlen,?_,fun _=>rfl⟩) fun H e s' z=>z
 ·rw [aaw.mp h1]
  exact⟨codeHd_of_K KX (hh w),hP⟩
 ·rw [aaw.mp h1]
  exact hk w
 ·rw [E1 (ht w)]
  exact⟨#[],hO (c,P) (.head _),trivial,.inl rfl⟩
theorem Bg(Y:X.base.NoSeer/\X.prog.given.tree=none)(rD:X.stack=e::l)(h1:e.scope.isGenerator=false)(h2:e.scope.isCoroutine=false)(h3:e.builtins=builtinsNs)(h4:e.globals=mainGlobals)(hr:bK 32 X.A):
  gq X (binaryOp .FloorDiv) (rI (fun _ j=>j≠0) fun i j=>.int (i.fdiv j)):=by
 intro pins s σ H x y v u Q I rx ry h
 obtain ⟨i,j,rfl,rfl,hc,q⟩:=h
 obtain ⟨t,rfl⟩:=rx
 obtain ⟨t',rfl⟩:=ry
 have hd:X.A.depth+Builtin.pylongFrames<recursionLimit:=by
  have:=hr.dp
  have e1:Builtin.pylongFrames=100:=rfl
  lia
 exact floordiv_int hc ⟨.int (i.fdiv j),H,I.tok _,⟨_,rfl⟩,q⟩ (.inr (PylongRoom.of I.nolimit hd (SeerAt.of (Y.1.keeps I.bk) Y.2 (by rw [I.ok.frames,rD]) h1 h2 h3 h4)))
end L2
namespace L2
open PySem PySem.Spec PyProof.Rows PySem.W
theorem oY(Y:X.base.NoSeer/\X.prog.given.tree=none)(rD:X.stack=e::l)(h1:e.scope.isGenerator=false)(h2:e.scope.isCoroutine=false)(h3:e.builtins=builtinsNs)(h4:e.globals=mainGlobals)(hr:bK 32 X.A):
  gq X (binaryOp .FloorDiv) (rI (fun _ j=>0<j) fun i j=>.int (i / j)):=by
 intro pins s σ H x y v u Q I rx ry h
 obtain ⟨i,j,rfl,rfl,hc,q⟩:=h
 have LI:(0:Int)<j:=hc
 exact Bg Y rD h1 h2 h3 h4 hr pins s σ H _ _ v u Q I rx ry ⟨i,j,rfl,rfl,(by lia:j≠0),by show Q (.int (i.fdiv j)) H;rw [aas i aaa];exact q⟩
open PySem PySem.Spec PyProof.Rows
def qv(i j:Int):Prop:=eT i+eT j<=134217728
theorem qv.ok{i j:Int}(h:qv i j):IntMulOk i j:=by
 unfold IntMulOk
 intro z
 simp only [Bool.and_eq_true,decide_eq_true_eq] at z
 have z2:=z.2
 unfold Builtin.Int.intTooBig at z2
 have h':Builtin.Int.intBits i+Builtin.Int.intBits j<=134217728:=h
 have b:(134217728:Int)<=bitsLine:=by decide
 simp only [decide_eq_true_eq] at z2
 lia
theorem Np:gq X (binaryOp .Mult) (rI qv fun i j=>.int (i*j)):=PB fun _ _ _ _ _ _ _ hc q=>mul_int q hc.ok
def RE(K:Frag):List V->Hp->VK->Prop:=fun xs H Q=>∃ (a:Addr) (bs:List Bool),xs=[.ref a]/\aP K H a (bs.map V.bl)/\Q (.bl (bs.any id)) H
theorem Di(bs:List Bool):((List.range bs.length).any fun i=>(bs[i]?).getD true)=bs.any id:=by
 rw [Bool.eq_iff_iff,any_eq_true,any_eq_true]
 constructor
 ·rintro ⟨i,hi,h⟩
  have yB:=aaM.mp hi
  exact⟨bs[i],aa5 yB,by simpa [aat yB] using h⟩
 ·rintro ⟨b,hb,h⟩
  obtain ⟨i,hi,rfl⟩:=aa6 hb
  exact⟨i,aaM.mpr hi,by simpa [aat hi] using h⟩
theorem Gu(hc:X.calm=true):bM X (.builtin "any") (RE X.K):=by
 intro pins s σ H xs us Q I r h
 obtain ⟨a,bs,rfl,hs,q⟩:=h
 obtain ⟨u,rfl,ru⟩:=vals1 r
 cases ru
 obtain ⟨its,rv,p,_⟩:=I.list hs
 have hl:s.heap.IsList a its.toArray:=by
  obtain ⟨o,n,h1,h2,h3⟩:=p
  exact⟨o,h1,h2,n,h3.2⟩
 have fk:a<s.heap.objs.size:=by obtain ⟨_,e,_⟩:=hl;exact aae e
 have hh:X.A.handled=none:=I.ok.hd hc
 refine call_any_walk (wpAny_pyIter_list hl ?_)
 refine⟨s.heap.objs.size,[s.heap.objs.size,a],[s.heap.objs.size],its.toArray.size,_,_,fun i=>(bs[i]?).getD true,rfl,Walks.list (A:=X.A.in1) hh _ a (aa1 fk) its.toArray,
  ⟨⟨_,aaf _ rfl,rfl,rfl⟩,hl.push _⟩,fun i v s' Q' E' hP hQ=>?_,fun h' tk hk=>?_⟩
 ·have Vz:its[i]?=some v:=by simpa using hP
  have hi:i<its.length:=(aad.mp Vz).1
  have hb:i<bs.length:=by have:=rv.length;simp at this;lia
  obtain ⟨u1,e1,r1⟩:=rv.get (i:=i) (x:=.bl bs[i]) (by simp [hb])
  rw [Vz] at e1
  cases e1
  cases r1
  simp only [aat hb,Option.getD_some] at hQ
  exact wpAny_truthy_bool hQ
 ·have e:((List.range its.toArray.size).any fun i=>(bs[i]?).getD true)=bs.any id:=by
   have:=rv.length
   simp at this
   rw [aaP,<- this];exact Di bs
  rw [e]
  exact⟨.bl (bs.any id),H,I.kept (t':=tk) (fun b x e=>hk b x (fun hm=>by rw [aaw.mp hm] at e;exact Nat.lt_irrefl _ (aae e)) (aab _ e)),rfl,q⟩
theorem RF(K:Frag)(hK:X.K=K)(hc:X.calm=true):bM X (.builtin "any") (RE K):=hK ▸ Gu hc
theorem VQ{K:Frag}{H:Hp}{Q:VK}{a:Addr}{bs:List Bool}(e:aP K H a (bs.map V.bl))(h:Q (.bl (bs.any id)) H):RE K [.ref a] H Q:=⟨a,bs,rfl,e,h⟩
section
variable {K:Frag}{H:Hp}{σ:St}{Q:VK}{ix:List (Option Nat)}{l:Addr}{xs:List V}{rs:List (List Int)}
theorem oZ(fr:St)(f:List Int->Bool)(g:List Int->List Int)(gn:pick ix σ=none::fr)(hl:aP K H l xs)(hr:az K H xs rs)(hn:rs.length<=1000)(test:∀ (a:Addr) (r:List Int) (H':Hp) (Qt:Bool->Hp->Prop),r∈rs->aj H H'->aC K H' a (r.map V.int)->(∀ H5,aj H' H5->Qt (f r) H5)->tt (some (.ref a)::fr) H' Qt)(elt:∀ (a:Addr) (r:List Int) (H':Hp) (Qc:VK),r∈rs->f r=true->aj H H'->aC K H' a (r.map V.int)->(∀ p H5,aj H' H5->aC K H5 p ((g r).map V.int)->Qc (.ref p) H5)->te (some (.ref a)::fr) H' Qc)(hQ:∀ l2 H' ys,H l2=none->aj H H'->H' l2=some (.lst ys)->az K H' ys ((rs.filter f).map g)->Q (.ref l2) H'):aV ix (bu 0) tt te σ Q (LJ K l) H:=by
 have hlen:=hr.length
 refine kL (K:=K) 1 fr rs.length (fun i=>((rs.take i).filter f).map g) gn rfl (fun i=>by rw [aaz];exact aag (aa4 _ _) (aag (length_take_le' _ _) hn)) (fun H' s=>⟨xs,s.seq hl,aaa⟩) (fun i H' hi s=>⟨xs,xs[i]' aaa,s.seq hl,aat aaa⟩) (fun i x H' H2 own ho hi s hy Qy Qn ky kn=>?_) (fun l2 H' ys a b c d=>hQ l2 H' ys a b c (by rw [aaN] at d;exact d))
 obtain ⟨o1,rfl⟩:∃ o1,own=[o1]:=by match own,ho with|[o1],_=>exact⟨o1,rfl⟩
 obtain ⟨rfl,e⟩:=hy
 obtain ⟨a,r,rfl,ha,yr⟩:=hr.get (e xs (s.seq hl))
 have iK:r∈rs:=aay yr
 have et:=qu (f:=f) yr
 dsimp only [bu]
 refine test a r _ _ iK s (s.at ha) fun H5 s5=>?_
 cases ef:f r with
 | true =>
  rw [ef] at et
  rw [if_pos rfl]
  exact elt a r H5 _ iK ef (s.trans s5) ((s.trans s5).at ha) fun p H6 s6 hp=>ky [some (.ref a)] p (g r) H6 rfl (s5.trans s6) hp (by rw [et];simp)
 | false =>
  rw [ef] at et
  rw [if_neg aa8]
  exact kn [some (.ref a)] H5 rfl s5 (by rw [et];simp)
end
theorem aY.iz{K:Frag}{H H':Hp}{P:Addr}{lp:Pos}{q:Str}(s:aU P H H')(t:eB P lp q H):∀ {xs:List V} {ks:List (List Int×Int)},aY K H xs ks->aY K H' xs ks
 | _,_,.nil=>.nil
 | _,_,.cons h hw u=>.cons (s.at t h) (s.at t hw) (aY.iz s t u)
end L2
namespace L2
open PySem PySem.Spec PyProof.Rows PySem.Builtin PySem.Builtin.Str
def VR(z:Str):It:=⟨fun i _=>i<z.cps.size,fun i H x H'=>H'=H/\∃ c,z.cps[i]?=some c/\x=.str ⟨#[c]⟩,fun i _=>z.cps.size<=i⟩
theorem Dj {P:Program} {w:World} {K:Frag} {tg:Expr} (it:Addr) (z:Str) (t:Tok):Turn P w K tg (VR z) [it] it (fun i h=>h.IsStrIter it "str_ascii_iterator" z t i) where
 mem:=by simp
 obj:=fun i h st b hb=>by
  have e:b=it:=by simpa using hb
  subst e
  obtain ⟨o,e,c,d⟩:=st
  exact⟨o,e,fun v z=>by rw [d] at z;cases z⟩
 keep:=fun i h h' st k=>let ⟨o,ho,r⟩:=st;⟨o,k it (by simp) o ho,r⟩
 item:=by
  intro X hP hw hK hc i pins s σ H E I hf st hg
  subst hP hw hK
  obtain ⟨f0,f1,f2,f3,f4,f5⟩:=hf it (by simp)
  have hi:i<z.cps.size:=hg
  refine wpAny_pyNext_ascii_item st (c:=z.cps[i]) (by simp [hi]) fun h' gm sb=>?_
  have I1:Inv X pins σ H { s with heap:=h',toks:=s.toks+1 }:=I.turned (fun b o hb e=>(sb.2 b hb).trans e) f0 f1 f3 f4 f5
  obtain ⟨o,e,c,d⟩:=id gm
  exact⟨_,rfl,sY (s:={ s with heap:=h',toks:=s.toks+1 }) e c d aa8 ⟨.str ⟨#[z.cps[i]]⟩,H,I1,⟨_,rfl⟩,⟨rfl,_,by simp [hi],rfl⟩,gm,fun b hb=>(hf b hb).1⟩⟩
 done:=by
  intro X hP hw hK hc i pins s σ H E I hf st hg
  subst hP hw hK
  obtain ⟨f0,f1,f2,f3,f4,f5⟩:=hf it (by simp)
  have hi:z.cps.size<=i:=hg
  exact wpAny_pyNext_ascii_end (I.ok.hd hc) st (by simp [hi]) fun h' eb=>⟨rfl,I.turned (t':=s.toks) (fun b o hb e=>eb b o hb e) f0 f1 f3 f4 f5⟩
 self:=fun _ _ _ _ _ st h=>wpAny_pyIter_striter_ascii st h
theorem Gv {P:Program} {w:World} {K:Frag} {tg:Expr} (it:Addr) (z:Str) (t:Tok):Turn P w K tg (VR z) [it] it (fun i h=>h.IsStrIter it "str_iterator" z t i) where
 mem:=by simp
 obj:=fun i h st b hb=>by
  have e:b=it:=by simpa using hb
  subst e
  obtain ⟨o,e,c,d⟩:=st
  exact⟨o,e,fun v z=>by rw [d] at z;cases z⟩
 keep:=fun i h h' st k=>let ⟨o,ho,r⟩:=st;⟨o,k it (by simp) o ho,r⟩
 item:=by
  intro X hP hw hK hc i pins s σ H E I hf st hg
  subst hP hw hK
  obtain ⟨f0,f1,f2,f3,f4,f5⟩:=hf it (by simp)
  have hi:i<z.cps.size:=hg
  refine wpAny_pyNext_wide_item st (c:=z.cps[i]) (by simp [hi]) fun h' gm sb=>?_
  have I1:Inv X pins σ H { s with heap:=h',toks:=s.toks+1 }:=I.turned (fun b o hb e=>(sb.2 b hb).trans e) f0 f1 f3 f4 f5
  obtain ⟨o,e,c,d⟩:=id gm
  exact⟨_,rfl,sY (s:={ s with heap:=h',toks:=s.toks+1 }) e c d aa8 ⟨.str ⟨#[z.cps[i]]⟩,H,I1,⟨_,rfl⟩,⟨rfl,_,by simp [hi],rfl⟩,gm,fun b hb=>(hf b hb).1⟩⟩
 done:=by
  intro X hP hw hK hc i pins s σ H E I hf st hg
  subst hP hw hK
  obtain ⟨f0,f1,f2,f3,f4,f5⟩:=hf it (by simp)
  have hi:z.cps.size<=i:=hg
  exact wpAny_pyNext_wide_end (I.ok.hd hc) st (by simp [hi]) fun h' eb=>⟨rfl,I.turned (t':=s.toks) (fun b o hb e=>eb b o hb e) f0 f1 f3 f4 f5⟩
 self:=fun _ _ _ _ _ st h=>wpAny_pyIter_striter_wide st h
def RG:V->Hp->(It->Hp->Prop)->Prop:=fun x H R=>∃ z,x=.str z/\R (VR z) H
def VS(tl:TE):TI:=fun σ H R=>tl σ H fun x H1=>RG x H1 R
section
variable {X:Cx}
theorem RH{tg l:Expr}{tl:TE}(hl:PE X l tl):PI X tg l (VS tl):=by
 intro pins s σ H R I h
 refine cu (hl pins s σ H _ I h) fun v s1 ⟨x,H1,I1,r1,q1⟩=>?_
 obtain ⟨z,e,q⟩:=q1
 subst e
 obtain ⟨t,rfl⟩:=r1
 have fp:∀ b∈[s1.heap.objs.size],lg X pins H1 b:=fun b hb=>by
  have e:b=s1.heap.objs.size:=by simpa using hb
  subst e
  exact I1.we (aah _) (I1.bh.fresh (aah _))
 cases ha:z.cps.all (·<128)
 ·exact wpAny_pyIter_wide ha ⟨s1.heap.objs.size,[s1.heap.objs.size],_,_,H1,rfl,I1.kept (t':=s1.toks) fun b o e=>aab _ e,Gv _ z t,⟨_,aaf _ rfl,rfl,rfl⟩,fp,q⟩
 ·exact wpAny_pyIter_ascii ha ⟨s1.heap.objs.size,[s1.heap.objs.size],_,_,H1,rfl,I1.kept (t':=s1.toks) fun b o e=>aab _ e,Dj _ z t,⟨_,aaf _ rfl,rfl,rfl⟩,fp,q⟩
def VT:V->Option Int->Option Int->Hp->VK->Prop:=fun x lo hi H Q=>∃ z,x=.str z/\z.length<=sizeLine/\Q (.str (Txt.slice z lo hi)) H
theorem part_of(h:IsPart v o):∃ l:Option (Int×Tok),v=partValue l/\o=l.map (·.1):=by
 cases h with
 | none=>exact⟨none,rfl,rfl⟩
 | int i t=>exact⟨some (i,t),rfl,rfl⟩
theorem RI:P0 X VT:=by
 intro pins s σ H x v vl vu lo hi sl Q I rx hs pl pu h
 obtain ⟨z,rfl,hz,q⟩:=h
 obtain ⟨t,rfl⟩:=rx
 obtain ⟨l,rfl,rfl⟩:=part_of pl
 obtain ⟨u,rfl,rfl⟩:=part_of pu
 refine⟨"str",_,F.slot_str_getitem.lookup,typeIs_str _ _ _,wpAny_getItem_str_slice (l:=l) (u:=u) (st:=none) hs rfl ?_⟩
 exact post_val_or_str ⟨aag (Txt.slice_le z _ _) hz,fun t' k=>⟨.str _,H,I.tok _,⟨_,rfl⟩,q⟩⟩
theorem xT:∀ (zs:List Str) (k:Nat),Vals (zs.map V.str) (strsFrom k zs)
 | [],_=>.nil
 | z::zs,k=>.cons ⟨_,rfl⟩ (xT zs (k+1))
theorem bJ{n:Nat}(h:n<=2000):n<=sizeLine:=aag h aa8
def OZ:List V->Hp->VK->Prop:=fun xs H Q=>∃ z n,xs=[.str z]/\PySem.intText? z=some n/\z.length<=640/\Q (.int n) H
theorem iA:bM X (.type "int") OZ:=by
 intro pins s σ H xs us Q I r h
 obtain ⟨z,n,rfl,hn,hl,q⟩:=h
 obtain ⟨u,rfl,t,rfl⟩:=vals1 r
 exact PySem.W.KIN.call_text hn hl ⟨.int n,H,I.tok _,⟨_,rfl⟩,q⟩
def O0:List V->Hp->VK->Prop:=fun xs H Q=>∃ i,xs=[.int i]/\i.natAbs.log2<1920/\Q (.str (toString i)) H
theorem b8:bM X (.type "str") O0:=ye
def O1:List V->Hp->VK->Prop:=fun xs H Q=>∃ z,xs=[.str z]/\z.length<=sizeLine/\Q (.int z.length) H
theorem Dl:bM X (.builtin "len") O1:=yl
def O2:R2:=fun x y H Q=>∃ i j,x=.str i/\y=.str j/\i.length+j.length<=sizeLine/\Q (.str (i++j)) H
theorem eO:gq X (binaryOp .Add) O2:=Cs
def VU:R2:=fun x y H Q=>∃ i j,x=.str i/\y=.str j/\Q (.bl (!(occurrences j i 0 j.length 1).isEmpty)) H
theorem RJ:gq X (compareOp .In) VU:=Fz
end
section
variable {D:Ends}{σ:St}{H:Hp}{te:TE}{g:TG}{Q:VK}{z y:Str}{K:Frag}
theorem RK(h:te σ H fun x H1=>RG x H1 R):VS te σ H R:=h
theorem VV(h:R (VR z) H):RG (.str z) H R:=⟨z,rfl,h⟩
theorem VW{lo hi:Option Int}(hz:z.length<=sizeLine)(h:Q (.str (Txt.slice z lo hi)) H):VT (.str z) lo hi H Q:=⟨z,rfl,hz,h⟩
theorem t7{n:Int}(hn:PySem.intText? z=some n)(hl:z.length<=640)(h:Q (.int n) H):OZ [.str z] H Q:=⟨z,n,rfl,hn,hl,h⟩
theorem eZ{i:Int}(hi:i.natAbs.log2<1920)(h:Q (.str (toString i)) H):O0 [.int i] H Q:=⟨i,rfl,hi,h⟩
theorem RL(hz:z.length<=sizeLine)(h:Q (.int z.length) H):O1 [.str z] H Q:=⟨z,rfl,hz,h⟩
theorem fb(hz:z.length+y.length<=sizeLine)(h:Q (.str (z++y)) H):O2 (.str z) (.str y) H Q:=⟨z,y,rfl,rfl,hz,h⟩
theorem VX(h:Q (.bl (!(occurrences y z 0 y.length 1).isEmpty)) H):VU (.str z) (.str y) H Q:=⟨z,y,rfl,rfl,h⟩
theorem VY{i:Int}{c:Nat}(hz:z.length<=sizeLine)(h1:FE z.cps.toList i=some c)(h:Q (.str ⟨#[c]⟩) H):P4 (.str z) (.int i) H Q:=⟨z,i,c,rfl,rfl,hz,h1,h⟩
theorem Kg(fr:St)(f:Nat->V)(gn:pick ix σ=none::fr)(hn:z.length<=1000)(step:∀ (i c:Nat) (H':Hp) (Qc:VK),z.cps[i]?=some c->aj H H'->(∀ H5,aj H' H5->Qc (f i) H5)->te (some (.str ⟨#[c]⟩)::fr) H' Qc)(hQ:∀ l H',H l=none->aj H H'->H' l=some (.lst ((List.range z.cps.size).map f))->Q (.ref l) H'):aV ix (bu 0) (fun _ H Q=>Q true H) te σ Q (VR z) H :=
 jz fr z.cps.size f gn (aag hn aa8) (fun _ _=>aah _) (fun i _ hi _=>hi) (fun i x H' H2 Qc hi hs hy kc=>by obtain ⟨rfl,c,hc,rfl⟩:=hy;exact step i c _ Qc hc hs kc) hQ
theorem Kh{zs:List Str}{i:Nat}{x:V}(h:(zs.map V.str)[i]?=some x):∃ z,x=.str z/\zs[i]?=some z:=by
 rw [aaQ] at h
 obtain ⟨z,h1,h2⟩:=Option.map_eq_some_iff.mp h
 exact⟨z,h2.symm,h1⟩
end
def O3(tc:TE)(r':R2)(y:V)(σ:St)(Q:VK):VK:=fun z H3=>∃ k,z=.bl k/\(if k=true then tc σ H3 fun w' H4=>r' y w' H4 Q else Q (.bl false) H3)
theorem Nq(h:ta σ H fun x H1=>tb σ H1 fun y H2=>r x y H2 (O3 tc r' y σ Q)):HZ r r' ta tb tc σ H Q:=h
theorem RM{k:Bool}(h:if k=true then tc σ H fun w' H4=>r' y w' H4 Q else Q (.bl false) H):O3 tc r' y σ Q (.bl k) H:=⟨k,rfl,h⟩
open PySem PySem.Spec PyProof.Rows
section
variable {Q:VK}{H:Hp}{z y:Str}
theorem V0:decide (V.str z=V.str y)=decide (z=y):=by
 rw [Bool.eq_iff_iff];simp
theorem V1(h:Q (.bl (decide (z=y))) H):Ye (.str z) (.str y) H Q:=⟨rfl,by rw [V0];exact h⟩
theorem V2(h:Q (.bl (!decide (z=y))) H):Yf (.str z) (.str y) H Q:=⟨rfl,by rw [V0];exact h⟩
end
def V3:Expr->Option V
 | .Constant (.int i) _ _=>some (.int i)
 | .Constant (.str s) _ _=>some (.str s)
 | _=>none
def E5:List Expr->Option (List V)
 | []=>some []
 | e::es=>match V3 e,E5 es with
  | some v,some vs=>some (v::vs)
  | _,_=>none
def Bh:List V->TA
 | []=>Aj
 | v::vs=>xn (tC v) (Bh vs)
theorem yZ:∀ {es:List Expr} {vs:List V},E5 es=some vs->PA X es (Bh vs)
 | [],vs,h=>by cases h;exact af
 | e::es,vs,h=>by
  unfold E5 at h
  split at h
  ·rename_i v ws h1 h2
   cases h
   unfold V3 at h1
   split at h1
   ·cases h1;exact aa ah (yZ h2)
   ·cases h1;exact aa aG (yZ h2)
   ·cases h1
  ·cases h
theorem E6{X:Cx}{es:List Expr}{vs:List V}{pos:Pos}(h:E5 es=some vs):PE X (.List es pos) (Mh (Bh vs)):=bP (yZ h)
theorem xV:∀ {vs:List V} {Q:List V->Hp->Prop},Q vs H->Bh vs σ H Q
 | [],_,h=>h
 | v::vs,Q,h=>xV (vs:=vs) (Q:=fun xs H2=>Q (v::xs) H2) h
theorem RN(hl:vs.length<=1000)(h:∀ p H2,H p=none->aj H H2->H2 p=some (.lst vs)->Q (.ref p) H2):Mh (Bh vs) σ H Q :=
 xV (vs:=vs) (Jx hl h)
theorem noraise:∀ e s',XW X (fun _ _ _=>False) e s'->X.xe e s':=fun _ _ h=>by
 obtain ⟨_,_,_,_,_,_,_,z⟩:=h
 exact z.elim
def o6(P:Program)(w:World)(K:Frag)(a:Addr)(fv:List (Key×V)):Prop :=
 (a == sysModules)=false/\∀ h:Heap,K.In h->∃ vs,KV fv vs/\h.DictOf (kl P w) a vs
def RO(w:World)(x:Str×Tok×Addr):DictEntry:=⟨PyData.keyHash w.params x.1,.str x.1 x.2.1,.ref x.2.2⟩
theorem RP {P:Program} {w:World} {K:Frag} {a:Addr} {xs:List (Str×Tok×Addr)} {ep:Nat} (lk:K.lookup a=some ⟨.type "dict",none,.dict (xs.map (RO w)).toArray ep,#[]⟩) (hs:(a == sysModules)=false) (hn:(xs.map (·.1)).Nodup) :
  o6 P w K a (xs.map fun x=>(.inr x.1,.ref x.2.2)):=by
 refine⟨hs,fun h KX=>⟨xs.map fun x=>(.inr x.1,.ref x.2.2),?_,_,_,_,KX _ _ lk,⟨rfl,rfl,rfl⟩,rfl,?_,?_,?_⟩⟩
 ·clear lk hn
  induction xs with
  | nil=>exact .nil
  | cons x xs ih=>exact .cons ⟨rfl,rfl⟩ ih
 ·intro e he
  have ZA:e∈xs.map (RO w):=by simpa using he
  obtain ⟨x,_,rfl⟩:=aaD.mp ZA
  exact⟨.inr x.1,ij x.1 x.2.1,rfl⟩
 ·show Pairs _ (xs.map (RO w)).toArray.toList _
  rw [toList_toArray]
  clear lk hn
  induction xs with
  | nil=>exact .nil
  | cons x xs ih=>exact .cons (ij x.1 x.2.1) rfl ih
 ·rw [aaS]
  have:(xs.map (·.1)).Pairwise (·≠·):=hn
  rw [List.Nodup,pairwise_map] at *
  exact hn.imp fun h e=>h (Sum.inr.inj e)
section
variable {X:Cx}{a:Addr}{fv:List (Key×V)}
def E7(a:Addr)(fv:List (Key×V)):R2:=fun x y H Q=>∃ z:Str,x=.str z/\y=.ref a/\Q (.bl (!(tY fv (.inr z)).isSome)) H
theorem Gw(F:o6 X.prog X.w X.K a fv):gq X (compareOp .NotIn) (E7 a fv):=by
 intro pins s σ H x y v u Q I rx ry h
 obtain ⟨z,rfl,rfl,q⟩:=h
 obtain rfl:u=Value.ref a:=ry
 obtain ⟨hs,hF⟩:=F
 obtain ⟨vs,rel,dd⟩:=hF _ I.jq
 refine wpAny_notIn_of (OS (k:=.inr z) rx) hs dd.mapOf ?_
 rw [<- (rel.val (.inr z)).Gm]
 exact⟨.bl _,H,I.tok _,rfl,q⟩
def V4(a:Addr)(fv:List (Key×V)):R2:=fun x y H Q=>∃ (z:Str) (v:V),x=.ref a/\y=.str z/\tY fv (.inr z)=some v/\Q v H
theorem Bi(F:o6 X.prog X.w X.K a fv):Ip X (V4 a fv):=by
 intro value slice pins s σ H x y v u Q I rx ry h hs
 obtain ⟨z,r,rfl,rfl,hv,q⟩:=h
 obtain rfl:v=Value.ref a:=rx
 obtain ⟨AM,hF⟩:=F
 obtain ⟨vs,rel,dd⟩:=hF _ I.jq
 obtain ⟨w',hw,Ul⟩:=lQ.Ep (v:=r) (o:=valueAt vs (.inr z)) (by rw [<- hv];exact rel.val (.inr z))
 exact tail_any dd.typeIs PySem.F.slot_dict_getitem.lookup (wpAny_getItem_of (OS (k:=.inr z) ry) dd.mapOf hw ⟨r,H,I.tok _,Ul,q⟩) hs
def E8:V->List V->Hp->VK->Prop:=fun x xs H Q=>∃ z y,x=.str z/\xs=[.str y]/\Q (.bl (0+y.length<=z.length && Builtin.Str.subAt z y 0)) H
theorem Gx:P2 X "str.startswith" E8:=by
 intro pins s σ H x xs v us Q I rx rs h
 obtain ⟨z,y,rfl,rfl,q⟩:=h
 obtain ⟨t,rfl⟩:=rx
 obtain ⟨u,rfl,t',rfl⟩:=vals1 rs
 exact call_gives F.slot_str_startswith (typeIs_str _ _ _) F.entry_str_startswith (F.args_str_startswith_2 _ _) (gives_str_startswith z y t t') ⟨.bl _,H,I,rfl,q⟩
end
section
variable {H:Hp}{Q:VK}{a:Addr}{fv:List (Key×V)}{z y:Str}
theorem Ki(h:Q (.bl (!(tY fv (.inr z)).isSome)) H):E7 a fv (.str z) (.ref a) H Q:=⟨z,rfl,rfl,h⟩
theorem t9(hv:tY fv (.inr z)=some v)(h:Q v H):V4 a fv (.ref a) (.str z) H Q:=⟨z,v,rfl,rfl,hv,h⟩
theorem Kj(h:Q (.bl (0+y.length<=z.length && Builtin.Str.subAt z y 0)) H):E8 (.str z) [.str y] H Q:=⟨z,y,rfl,rfl,h⟩
end
theorem aU.iO(s:aU P H H2)(h:H l=none):aU P H (upd H2 l o):=fun b u n e=>by
 rw [ay (fun z=>by rw [z,h] at e;cases e)]
 exact s b u n e
theorem ee.iz(s:aU P H H')(t:eB P lp q H):∀ {xs:List V} {rs:List (List Int)},ee H xs rs->ee H' xs rs
 | _,_,.nil=>.nil
 | _,_,.cons h u=>.cons (s.lst t h) (u.iz s t)
end L2
namespace Srt
open PySem PySem.W PyProof.Rows
section
variable {n:Nat}{key:Nat->Int}
def ky(key:Nat->Int)(p:Array Nat)(i:Nat):Int:=key (p.getD i 0)
end
end Srt
namespace L2
open PySem PySem.Spec PySem.W PyProof.Rows
def lk(r:List Int):Int:=r.foldl (fun k a=>k*4000001+a) 0
end L2
namespace L2
open PySem PySem.Spec PyProof.Rows PySem.W
theorem nP:∀ {zs:List Str} {its:List Value},Vals (zs.map V.str) its->∃ l:List (Str×Tok),strValues l=its/\l.map (·.1)=zs
 | [],_,h=>by cases h;exact⟨[],rfl,rfl⟩
 | z::zs,_,h=>by
  cases h with
  | cons r h =>
   obtain ⟨t,rfl⟩:=r
   obtain ⟨l,e1,e2⟩:=nP h
   exact⟨(z,t)::l,by rw [<- e1];rfl,by rw [<- e2];rfl⟩
def Kk:V->List V->Hp->VK->Prop:=fun x xs H Q=>∃ y l zs,x=.str y/\xs=[.ref l]/\H l=some (.lst (zs.map V.str))/\y.length<=1/\((zs.map (·.length)).sum+zs.length<=100000)/\Q (.str (Str.join y zs)) H
theorem nQ:P2 X "str.join" Kk:=by
 intro pins s σ H x xs v us Q I rx rs h
 obtain ⟨y,l,zs,rfl,rfl,hl,hy,hw,q⟩:=h
 obtain ⟨t,rfl⟩:=rx
 obtain ⟨u,rfl,ru⟩:=vals1 rs
 cases ru
 obtain ⟨z,its,n,r,e⟩:=(show cv X.prog X.w H s.heap l (.lst (zs.map V.str)) from I.bh l _ hl)
 obtain ⟨ps,e1,e2⟩:=nP r
 subst e1
 refine SC.join (l:=ps) ⟨_,e,rfl,n,rfl⟩ e2 (joinOk_of_weight aaa aaa) fun t' k=>?_
 have ej:Txt.join y zs=Str.join y zs:=eq_of_beq (join_closes (ys:=zs) (rfl:y=y))
 rw [ej]
 exact⟨.str _,H,I.tok _,⟨_,rfl⟩,q⟩
section
variable {X:Cx}{p1 p2 jH pos2:Pos}{e:Expr}{t:TE}
variable {σ:St}{H:Hp}{Q:VK}
theorem y0(hl:H l=some (.lst (zs.map V.str)))(hy:y.length<=1)(hw:(zs.map (·.length)).sum+zs.length<=100000)(h:Q (.str (Str.join y zs)) H):Kk (.str y) [.ref l] H Q:=⟨y,l,zs,rfl,rfl,hl,hy,hw,h⟩
end
end L2
namespace L2
open PySem PySem.Spec PyProof.Rows PySem.W
def sM(K:Frag):V->List V->Hp->VK->Prop:=fun x vs H Q=>∃ (p:Addr) (ys:List V) (y:V) (d:PyData) (ds:List PyData) (j:Nat),x=.ref p/\vs=[y]/\aP K H p ys/\d5 K H ys ds/\dP K H y d/\PyData.canLayAll0 ds=true/\d.canLay0=true/\d.depth<=60/\j<=1000/\(∃ z,ds[j]?=some z/\PyData.eqv z d=true)/\(∀ (m:Nat) (z:PyData),m<j->ds[m]?=some z->PyData.eqv z d=false)/\Q (.int (j:Int)) H
theorem Gy(hu:X.A.units+64<cLine):P2 X "list.index" (sM X.K):=by
 intro pins s σ H x vs v us Q I rx rs h
 obtain ⟨p,ys,y,d,ds,j,rfl,rfl,hs,ht,hd,c1,c2,hz,hj,⟨z0,hz0,HH⟩,iI,q⟩:=h
 obtain ⟨u,rfl,ru⟩:=vals1 rs
 obtain ⟨as,ra⟩:=(dP.lst hs ht).reads I rx
 obtain ⟨bs,rb⟩:=hd.reads I ru
 cases ra with
 | @list a o its n _ as h1 h2 h3 h4 =>
  obtain ⟨cls,dd,data,sl⟩:=o
  simp only at h2 h3
  subst h2 h3
  have hm:=SeqAt.readsAll_map ds _ _ c1 h4
  have AF:∀ (m:Nat) (lC:m<its.size),ds[m]?=some (SeqAt.readOf s.heap its[m]):=fun m lC=>by
   rw [<- hm,aaQ,Array.getElem?_toList,Array.getElem?_eq_getElem lC]
   rfl
  have hjs:j<its.size:=by
   have e:(its.toList.map (SeqAt.readOf s.heap)).length=ds.length:=by rw [hm]
   rw [aaz,Array.length_toList] at e
   have:=(aad.mp hz0).1
   lia
  refine call_meets F.slot_list_index ⟨_,h1,rfl⟩ F.entry_list_index (F.args_list_index_2 _ _) (SeqAt.list_indexAt _ its n dd sl u (fun w=>PyData.eqv (SeqAt.readOf s.heap w) d) j hjs aaa ?_ (fun m lC hmj=>?_)) ⟨h1,SeqAt.items_eqAt h4 rb c1 c2 (by have:=Nat.min_le_right (PyData.depthAll ds) d.depth;lia),⟨.int _,H,I.tok _,⟨_,rfl⟩,q⟩⟩
  ·have:=AF j hjs
   rw [hz0] at this
   cases this
   exact HH
  ·exact iI m _ hmj (AF m lC)
theorem Dm(K:Frag)(hK:X.K=K)(hu:X.A.units+64<cLine):P2 X "list.index" (sM K):=hK ▸ Gy hu
theorem Kl{K:Frag}{H:Hp}{Q:VK}{p:Addr}{ys:List V}{y:V}{d:PyData}{ds:List PyData}(j:Nat)(hs:aP K H p ys)(ht:d5 K H ys ds)(hd:dP K H y d)(c1:PyData.canLayAll0 ds=true)(c2:d.canLay0=true)(hz:d.depth<=60)(hj:j<=1000)(h1:∃ z,ds[j]?=some z/\PyData.eqv z d=true)(h2:∀ (m:Nat) (z:PyData),m<j->ds[m]?=some z->PyData.eqv z d=false)(h:Q (.int (j:Int)) H):sM K (.ref p) [y] H Q:=⟨p,ys,y,d,ds,j,rfl,rfl,hs,ht,hd,c1,c2,hz,hj,h1,h2,h⟩
namespace Mat
def up(ts:List Nat)(a:Int)(u:Nat->Int):Nat->Int:=fun x=>if x∈ts then u x+a else u x
section
variable {n:Nat}{W:Nat->Nat->Int}{u v:Nat->Int}{g c:Nat->Option Nat}{first:Nat}{ts:List Nat}{os:List (Nat×Nat)}
def st(f:Nat->Option Nat)(i:Nat)(x:Option Nat):Nat->Option Nat:=fun k=>if k=i then x else f k
end
end Mat
end L2
namespace L2
open PySem PySem.Spec PyProof.Rows
inductive ZB(K:Frag)(H:Hp):List V->List (Nat×List Int)->Prop where
 | nil:ZB K H [] []
 | cons {q a:Addr} {p:Nat} {r:List Int} {xs:List V} {ps:List (Nat×List Int)} (h:aC K H q [.int (p:Int),.ref a]) (hr:aC K H a (r.map V.int)) (t:ZB K H xs ps):ZB K H (.ref q::xs) ((p,r)::ps)
theorem Dn{K:Frag}{D:Ends}{σ:St}{H:Hp}{g:TG}{a:Addr}{xs:List V}{tb:TS}(Pv:Nat->St->Hp->Prop)(h0:Pv 0 σ H)(ha:∀ i σ H2,Pv i σ H2->aC K H2 a xs)(hs:∀ i x σ H2,xs[i]?=some x->Pv i σ H2->g x σ H2 fun σ2 H4=>tb { D with nx:=Pv (i+1),ct:=Pv (i+1),bk:=D.nx } σ2 H4)(hd:∀ σ H2,Pv xs.length σ H2->D.nx σ H2):dA g tb D (HS K a) σ H:=by
 refine A5 xs.length Pv h0 (fun i σ H2 hi hp=>⟨xs,xs[i],ha i σ H2 hp,aat hi⟩) (fun σ H2 hp=>⟨xs,ha _ σ H2 hp,aah _⟩) (fun i x σ H2 H3 hi hp hy=>?_) hd
 obtain ⟨rfl,e⟩:=hy
 exact hs i x σ H3 (e xs (ha i σ H3 hp)) hp
inductive ZC(K:Frag)(H:Hp):List V->List (List Int×Bool)->Prop where
 | nil:ZC K H [] []
 | cons {q a:Addr} {b:Bool} {r:List Int} {xs:List V} {ps:List (List Int×Bool)} (h:aC K H q [.ref a,.bl b]) (hr:aC K H a (r.map V.int)) (t:ZC K H xs ps):ZC K H (.ref q::xs) ((r,b)::ps)
end L2
namespace L2
open PySem PySem.Spec PyProof.Rows PySem.W
def RQ(P:Program)(w:World)(K:Frag)(mg:Str->Option Value)(base:Heap)(k:Nat)(f:Addr)(ps:List Str)(sp:Sp):Prop :=
 ∃ fd,lh P w K mg base (ET P w mg) k f fd ps sp/\PySem.W.keepIn K (.ref f)=true/\Binds K fd ps []
section
variable {P:Program}{w:World}{K:Frag}{mg:Str->Option Value}{base:Heap}
theorem Bf.F8{fa:Addr}{x qual:Str}{st:Stmt}{N ps:List Str}{k:Nat}{sp:Sp}(D:Bf K fa x qual st ps)(S:ao N ps (al st))(len:∀ vs H Q E,sp vs H Q E->vs.length=ps.length)
  (di:∀ (f:Addr) (bf:Value) (A:Around) (outer:List Env) (s:Shared) (H:Hp) (vs:List V) (Q:VK) (E:XK),bK k (A.deeper (envOfC qual (al st) s.heap.objs.size f bf))->sp vs H Q E ->
   ∃ t,oB ((gP (ET P w mg) P w K mg base N qual (al st) f bf A outer s H E).ik (XW (gP (ET P w mg) P w K mg base N qual (al st) f bf A outer s H E) fun C _ H'=>E (.ref C.1) C.2 H')) (bw st) t/\t { nx:=fun _ H'=>Q .cJ H',rt:=Q } (start N vs) H):RQ P w K mg base (k+1) fa ps sp:=by
 obtain ⟨fd,F,hb⟩:=D
 obtain ⟨oc,od,kV,doc,pm,an,bf,ct,An,rfl,lk,lS⟩:=F.ex
 refine⟨_,Am lk lS S len fun A outer s H vs Q E hr lX=>?_,F.kp,hb⟩
 obtain ⟨t,h,q⟩:=di fa bf A outer s H vs Q E hr lX
 exact⟨t,h.xe fun e s z=>C3 z,q⟩
end
open PySem PySem.Spec PyProof.Rows
def del(H:Hp)(c:Addr):Hp:=fun b=>if b=c then none else H b
end L2
namespace L2
open PySem PySem.Spec PyProof.Rows PySem.W
end L2
namespace L2
open PySem PySem.Spec PyProof.Rows PySem.Builtin PySem.Builtin.Str
section
variable {X:Cx}
theorem O4{n:Nat}(h:n<=1000000):n<=sizeLine:=aag h aa8
def E9:V->List V->Hp->VK->Prop:=fun x xs H Q=>∃ z y,x=.str z/\xs=[.str y]/\y.length≠0/\z.length<=1000000/\(Txt.split z y).length<=2000/\∀ p,H p=none->Q (.ref p) (upd H p (.lst ((Txt.split z y).map V.str)))
theorem xW:P2 X "str.split" E9:=by
 intro pins s σ H x xs v us Q I rx rs h
 obtain ⟨z,y,rfl,rfl,hy,hz,hn,q⟩:=h
 obtain ⟨t,rfl⟩:=rx
 obtain ⟨u,rfl,t',rfl⟩:=vals1 rs
 have Qf:(y.length == 0)=false:=by simpa using hy
 have hz':z.length<=sizeLine:=O4 hz
 have PH:(Txt.split z y).length<=sizeLine:=O4 aaa
 have RS:∀ (k:Nat) (its:List Value),Vals ((Txt.split z y).map V.str) its->EP X pins σ Q (.ref s.heap.objs.size) { s with toks:=k,heap:=s.heap.push { cls:=.type "list",data:=.seq its.toArray } }:=fun k its r =>
  ⟨.ref s.heap.objs.size,_,I.laid (t':=k) (o:=.lst ((Txt.split z y).map V.str)) (fun b ob q=>aab _ q) (aah _) ⟨by rw [aaz];exact PH,_,0,r,aaf _ rfl⟩,rfl,q _ (I.bh.fresh (aah _))⟩
 cases h1:(decide (z.length<y.length) || decide (Builtin.Str.strKind z<Builtin.Str.strKind y))
 ·cases hf:(occurrences z y 0 z.length (z.length+1)).isEmpty
  ·have e:Txt.split z y=partsBetween z (occurrences z y 0 z.length (z.length+1)) y.length:=(if_neg (ne_true_of_eq_false h1)).trans (if_neg (ne_true_of_eq_false hf))
   refine call_meets F.slot_str_split (typeIs_str _ _ _) F.entry_str_split (F.args_str_split_2 _ _) (meets_str_split_sep z y t t' h1 Qf hf hz' (by rw [<- e];exact PH)) ?_
   rw [<- e]
   exact RS _ _ (xT _ _)
  ·have e:Txt.split z y=[z]:=(if_neg (ne_true_of_eq_false h1)).trans (if_pos hf)
   refine call_meets F.slot_str_split (typeIs_str _ _ _) F.entry_str_split (F.args_str_split_2 _ _) (meets_str_split_not_found z y t t' h1 Qf hf) ?_
   exact RS s.toks [.str z t] (by rw [e];exact .cons ⟨_,rfl⟩ .nil)
 ·have e:Txt.split z y=[z]:=if_pos h1
  refine call_meets F.slot_str_split (typeIs_str _ _ _) F.entry_str_split (F.args_str_split_2 _ _) (meets_str_split_cannot_occur z y t t' h1) ?_
  exact RS s.toks [.str z t] (by rw [e];exact .cons ⟨_,rfl⟩ .nil)
end
section
variable {H:Hp}{Q:VK}{z y:Str}
theorem Bj(hy:y.length≠0)(hz:z.length<=1000000)(hn:ws.length<=2000)(e:Txt.split z y=ws)(h:∀ p H2,H p=none->aj H H2->H2 p=some (.lst (ws.map V.str))->Q (.ref p) H2):E9 (.str z) [.str y] H Q:=⟨z,y,rfl,rfl,hy,hz,by rw [e];exact hn,fun p hp=>h p _ hp (aj.aZ hp) (by rw [e];exact aw)⟩
end
open PySem PySem.Spec PyProof.Rows
def dn(K:Frag)(n:Str)(st:Stmt):Prop:=∃ (f:Addr) (fd:FuncData),Ms K n n st f fd/\PySem.W.nsIn K mainGlobals n=some (some (.ref f))
theorem Km{K:Frag}{n:Str}{st:Stmt}{f:Addr}{oc:Value}{od an:Option Addr}{sl:Array (Option Value)}{kV dc pm cd ct:Value}(a:PySem.W.nsIn K mainGlobals n=some (some (.ref f)))(l:K.lookup f=some ⟨oc,od,.func (PySem.W.fnOf n n (cV st) (bw st) (al st) .none kV dc pm an cd ct),sl⟩)(c:PySem.W.codeIn K cd n=true)(k:PySem.W.keepIn K (.ref f)=true):dn K n st:=⟨f,_,yo l c k,a⟩
theorem dn.df{K:Frag}{n:Str}{st:Stmt}{mg:Str->Option Value}{h:Heap}{ps:List Str}(q:dn K n st)(X:K.In h)(G0:h.Ns mainGlobals mg)
  (b:∀ (kV doc pm:Value) (an:Option Addr) (bf ct:Value) (us:List Value),us.length=ps.length->bindArgs (PySem.W.fnOf n n (cV st) (bw st) (al st) .none kV doc pm an bf ct) ⟨us,[]⟩=pure (ps.zip us)):Def K mg n st ps :=
 let ⟨f,fd,F,a⟩:=q
 ⟨f,fd,F,mg_of X G0 a,F.binds b⟩
section
variable {K:Frag}{H H' H2:Hp}{o:Addr}
theorem Nr{α:Type}{xs:List α}{x:α}:FE (xs++[x]) (-1)=some x:=by
 unfold FE Io
 rw [if_neg aa8,if_pos (by rw [aaA];show -((xs.length+1:Nat):Int)<=-1;lia)]
 show (xs++[x])[_]?=_
 rw [show ((-1:Int)+((xs++[x]).length:Int)).toNat=xs.length by rw [aaA];show (-1+((xs.length+1:Nat):Int)).toNat=_;lia]
 simp
end
end L2
namespace L2
open PySem PySem.Spec PyProof.Rows PySem.W PyProof
theorem wy:entryFor table "proto.unchain"=some Builtin.«proto.unchain»:=entryFor_of_fast (by kernel_rfl)
open PySem PySem.Spec PyProof.Rows
def V5(P:Program)(w:World)(K:Frag)(mg:Str->Option Value)(base:Heap)(k:Nat)(f:Addr)(ps:List Str)(sp:Sp):Prop :=
 ∃ fd,lh P w K mg base (ET P w mg) k f fd ps sp/\PySem.W.keepIn K (.ref f)=true/\Binds K fd ps []
theorem A1.at{P:Program}{w:World}{K:Frag}{mg:Str->Option Value}{base:Heap}{k:Nat}{x:Str}{ps:List Str}{sp:Sp}{f:Addr}(O:A1 P w K mg base k x ps sp)(h:mg x=some (.ref f)):V5 P w K mg base k f ps sp:=by
 obtain ⟨f',fd,F,hm,hk,hb⟩:=O
 rw [h] at hm
 cases hm
 exact⟨fd,F,hk,hb⟩
def Ko(W:Nat->Addr->List Str->Sp->Prop)(k:Nat)(ps:List Str)(EX:yR)(i:Nat)(t:TA):TE:=fun σ H Q=>∃ f sp k',σ[i]?=some (some (.ref f))/\k'<=k/\W k' f ps sp/\t σ H fun vs H1=>sp vs H1 Q fun C d H2=>∃ c,C=.ref c/\EX (c,d) σ H2
section
variable {X:Cx}{EX:yR}{k i:Nat}{x:Str}{ps:List Str}{p pos:Pos}{e:Expr}{es:List Expr}{t:TA}
theorem Nt(hr:bK k X.A)(hX:∀ e s',XW X EX e s'->X.xe e s')(hex:X.ex=[])(ha:PA X (e::es) t)(hN:X.N[i]?=some x)(hv:SY X.env.scope x)(wg:(x == ("__debug__":Str))=false:=by decide)(lS:(x == ("__classdict__":Str))=false:=by decide)(he:starEach (e::es) X.env=(false,eval e X.env)::starEach es X.env:=by rfl)(oy:(backTo pos (starEach es X.env)).any (·.1)=false:=by rfl):
  PE X (.Call (.Name x p) (e::es) [] pos) (Ko (V5 X.prog X.w X.K X.mg X.base) k ps EX i t):=by
 intro pins s σ H Q I ⟨f,sp,k',hσ,oJ,⟨fd,F,hk,hb⟩,h⟩
 have hr:=hr.mono oJ
 refine wpAny_Call_Name_kw ?_
 refine cu (HP (pos:=p) hN hv wg lS pins s σ H (fun v H'=>v=.ref f/\H'=H) I ⟨.ref f,hσ,rfl,rfl⟩) fun u s0 ⟨v,H',I0,r1,e1,e2⟩=>?_
 subst e1
 subst e2
 obtain rfl:u=.ref f:=r1
 refine PySem.W.callWith_K (h₀:=X.base) I0.ok.mod.LY hk (cu (ha pos pins s0 σ _ _ I0 h) fun us s1 ⟨vs,H1,I1,r,q⟩=>⟨I1.jq,?_⟩) he oy
 exact yS F hr hX hex hb I1 r q
theorem kO{W:Nat->Addr->List Str->Sp->Prop}{k':Nat}(hs:σ[i]?=some (some (.ref f)))(hk:k'<=k)(hw:W k' f ps sp)(h:t σ H fun vs H1=>sp vs H1 Q fun C d H2=>∃ c,C=.ref c/\EX (c,d) σ H2):Ko W k ps EX i t σ H Q:=⟨f,sp,k',hs,hk,hw,h⟩
end
def Kp(w:World)(x:Str×Tok×Int×Tok):DictEntry:=⟨PyData.keyHash w.params x.1,.str x.1 x.2.1,.int x.2.2.1 x.2.2.2⟩
theorem Nu {P:Program} {w:World} {K:Frag} {a:Addr} {xs:List (Str×Tok×Int×Tok)} {ep:Nat} (lk:K.lookup a=some ⟨.type "dict",none,.dict (xs.map (Kp w)).toArray ep,#[]⟩) (hs:(a == sysModules)=false) (hn:(xs.map (·.1)).Nodup) :
  o6 P w K a (xs.map fun x=>(.inr x.1,.int x.2.2.1)):=by
 refine⟨hs,fun h KX=>⟨xs.map fun x=>(.inr x.1,.int x.2.2.1 x.2.2.2),?_,_,_,_,KX _ _ lk,⟨rfl,rfl,rfl⟩,rfl,?_,?_,?_⟩⟩
 ·clear lk hn
  induction xs with
  | nil=>exact .nil
  | cons x xs ih=>exact .cons ⟨rfl,⟨_,rfl⟩⟩ ih
 ·intro e he
  have ZA:e∈xs.map (Kp w):=by simpa using he
  obtain ⟨x,_,rfl⟩:=aaD.mp ZA
  exact⟨.inr x.1,ij x.1 x.2.1,rfl⟩
 ·show Pairs _ (xs.map (Kp w)).toArray.toList _
  rw [toList_toArray]
  clear lk hn
  induction xs with
  | nil=>exact .nil
  | cons x xs ih=>exact .cons (ij x.1 x.2.1) rfl ih
 ·rw [aaS]
  have:(xs.map (·.1)).Pairwise (·≠·):=hn
  rw [List.Nodup,pairwise_map] at *
  exact hn.imp fun h e=>h (Sum.inr.inj e)
end L2
namespace L2
open PySem PySem.Spec PyProof.Rows PySem.W
section
variable {X:Cx}{EX:yR}{k:Nat}{f C:Addr}{x m:Str}{ps:List Str}{sp:Sp}{p pos apos:Pos}{e o:Expr}{es:List Expr}{ta:TE}{t:TA}
def Kq(C:Addr)(m:Str)(sp:Sp)(EX:yR)(ta:TE)(t:TA):TE:=fun σ H Q=>ta σ H fun x H1=>∃ a dx fs,x=.ref a/\H1 a=some (.ins C dx fs)/\fs.lookup m=none /\
 t σ H1 fun vs H2=>sp (x::vs) H2 Q fun D d H3=>∃ c,D=.ref c/\EX (c,d) σ H3
theorem RT(O:RQ X.prog X.w X.K X.mg X.base k f ps sp)(c:Er X.K C)(hm:Meth X.K C m f)(hr:bK k X.A)(hX:∀ e s',XW X EX e s'->X.xe e s')(hex:X.ex=[])(he:PE X o ta)(ha:PA X (e::es) t)(rD:starEach (e::es) X.env=(false,eval e X.env)::starEach es X.env:=by rfl)(oy:(backTo pos (starEach es X.env)).any (·.1)=false:=by rfl)(ht:eval (.Call (.Attribute o m apos) (e::es) [] pos) X.env=(do
   let ov <- eval o X.env
   standAt apos.atName
   let (f,first) <- holding [ov] (getMethod ov m pl)
   callWith pos f first (backTo pos (starEach (e::es) X.env)) (backToKw pos (keywordEach [] X.env))):=by rfl):
  PE X (.Call (.Attribute o m apos) (e::es) [] pos) (Kq C m sp EX ta t):=by
 obtain ⟨fd,F,_,hb⟩:=O
 intro pins s σ H Q I h
 refine PySem.W.methodCall_KW (pl:=pl) (cu (he pins s σ H _ I h) fun u s1 ⟨x,H1,I1,rx,a,dx,fs,ex,ea,l,q⟩=>?_) ht
 subst ex
 obtain rfl:u=Value.ref a:=rx
 refine Cv I1 ea c hm l ?_
 refine PySem.W.callWith_K (first:=[.ref a]) (h₀:=X.base) I.ok.mod.LY hm.kp (cu (ha pos pins s1 σ H1 _ I1 q) fun us s2 ⟨vs,H2,I2,r,q2⟩=>⟨I2.jq,?_⟩) rD oy
 exact yS (us:=.ref a::us) (vs:=.ref a::vs) F hr hX hex hb I2 (.cons rfl r) q2
theorem RU(O:Zx X.prog X.w X.K X.mg X.base k f ps sp)(M:Mk X.K C f)(hr:bK (k+1) X.A)(hg:Gl X x)(hm:X.mg x=some (.ref C))(wg:(x == ("__debug__":Str))=false:=by decide):
  PE X (.Call (.Name x p) [] [] pos) (Ig C sp [] E0 Aj):=by
 obtain ⟨fd,F,_,hb⟩:=O
 exact Ii M F hr hg hm hb .nil Oo wg
end
def Kr(C:Addr)(m:Str)(sp:Sp)(EX:yR)(t:TA)(σ:St)(Q:VK)(x:V)(H1:Hp):Prop:=∃ a dx fs,x=.ref a/\H1 a=some (.ins C dx fs)/\fs.lookup m=none/\t σ H1 fun vs H2=>sp (x::vs) H2 Q fun D d H3=>∃ c,D=.ref c/\EX (c,d) σ H3
section
variable {H:Hp}{σ:St}{Q:VK}{ta:TE}{t:TA}{C:Addr}{m:Str}{sp:Sp}{EX:yR}
theorem Nv(h:ta σ H fun x H1=>Kr C m sp EX t σ Q x H1):Kq C m sp EX ta t σ H Q:=h
theorem Ks(e:H a=some (.ins C dx fs))(l:fs.lookup m=none)(h:t σ H fun vs H2=>sp (.ref a::vs) H2 Q fun D d H3=>∃ c,D=.ref c/\EX (c,d) σ H3):Kr C m sp EX t σ Q (.ref a) H:=⟨a,dx,fs,rfl,e,l,h⟩
end
def Dp(K:Frag)(cs ds:List Addr):Bool:=cs.zipIdx.all fun c=>ds.zipIdx.all fun d=>kitOne K (.ref c.1) (.ref d.1) == some (c.2 == d.2)
theorem Nw{K:Frag}{cs ds:List Addr}(h:Dp K cs ds=true)(i:Nat){c:Addr}(hc:cs[i]?=some c)(j:Nat){d:Addr}(hd:ds[j]?=some d):kitOne K (.ref c) (.ref d)=some (i == j):=by
 have h1:=all_eq_true.mp h (c,i) (List.mem_zipIdx_iff_getElem?.mpr hc)
 exact beq_iff_eq.mp (all_eq_true.mp h1 (d,j) (List.mem_zipIdx_iff_getElem?.mpr hd))
end L2
namespace L2
open PySem PySem.Spec PyProof.Rows PySem.W PyProof
def y3(a:Addr)(H:Hp):Prop:=∃ (q:Prop) (C:Addr) (d:Option Addr),q/\H a=some (tR q a C d)
abbrev Hd(A:Around)(H:Hp):Prop:=∃ a,A.handled=some (.ref a)/\y3 a H
def ZD(P:Program)(w:World)(K:Frag)(mg:Str->Option Value)(base:Heap)(k:Nat)(x:Str)(ps:List Str)(sp:Sp):Prop :=
 ∃ f fd,OR Hd P w K mg base CJ k f fd ps sp/\mg x=some (.ref f)/\keepIn K (.ref f)=true/\Binds K fd ps []
theorem Def.okE{P:Program}{w:World}{K:Frag}{mg:Str->Option Value}{base:Heap}{x:Str}{st:Stmt}{N ps:List Str}{k:Nat}{sp:Sp}(D:Def K mg x st ps)(S:ao N ps (al st))(len:∀ vs H Q E,sp vs H Q E->vs.length=ps.length)
  (di:∀ (f:Addr) (bf:Value) (A:Around) (outer:List Env) (s:Shared) (H:Hp) (vs:List V) (Q:VK) (E:XK) (ae:Addr),A.handled=some (.ref ae)->y3 ae H->Bb k (A.deeper (envOfC x (al st) s.heap.objs.size f bf))->sp vs H Q E ->
   ∃ t,oB (VF CJ P w K mg base N x (al st) f bf A outer s H E).Cp (bw st) t/\t { nx:=fun _ H'=>Q .cJ H',rt:=Q } (start N vs) H):ZD P w K mg base (k+1) x ps sp:=by
 obtain ⟨f,fd,F,hm,hb⟩:=D
 obtain ⟨oc,od,kV,doc,pm,an,bf,ct,An,rfl,lk,lS⟩:=F.ex
 refine⟨f,_,Ru lk lS S len fun A outer s H vs Q E ⟨a,h1,h2⟩ hr lX=>?_,hm,F.kp,hb⟩
 obtain ⟨t,h,q⟩:=di f bf A outer s H vs Q E a h1 h2 hr lX
 exact⟨t,h.Cp,q⟩
def Kt(a:Addr)(sp:Sp)(t:TA):TE:=fun σ H Q=>t σ H fun vs H1=>y3 a H1/\sp vs H1 Q E0
theorem RV{k:Nat}(a:Addr)(hh:X.A.handled=some (.ref a))(O:ZD X.prog X.w X.K X.mg X.base k x ps sp)(hr:Bb k X.A)(ha:PA X (e::es) t)(hg:Gl X x:=by rfl)(wg:(x == ("__debug__":Str))=false:=by decide)(he:starEach (e::es) X.env=(false,eval e X.env)::starEach es X.env:=by rfl)(oy:(backTo pos (starEach es X.env)).any (·.1)=false:=by rfl):
  PE X (.Call (.Name x p) (e::es) [] pos) (Kt a sp t):=by
 obtain ⟨f,fd,F,hm,hk,hb⟩:=O
 intro pins s σ H Q I h
 refine wpAny_Call_Name_kw (iG I hg hm ?_ wg)
 refine callWith_K (h₀:=X.base) I.ok.mod.LY hk (cu (ha pos pins s σ H _ I h) fun us s1 ⟨vs,H1,I1,r,q0,q⟩=>⟨I1.jq,?_⟩) he oy
 have hl:(us++[]).length=ps.length:=by rw [append_nil,<- r.length];exact F.len _ _ _ _ q
 refine wpAny_call (codeAny_mono (F.run X.A X.stack s1 H1 ⟨us,[]⟩ (us++[]) vs Q E0 ⟨a,hh,q0⟩ hr I1.Mi (hb s1 us I1.jq hl) (by rw [append_nil];exact r) q) fun r s' hq=>?_)
 cases r with
 | error e=>exact False.elim hq
 | ok fl =>
  cases fl with
  | ret u=>exact I1.after hq
  | next=>exact False.elim hq
  | brk=>exact False.elim hq
  | cont=>exact False.elim hq
theorem Ny(h:t σ H fun vs H1=>y3 a H1/\sp vs H1 Q E0):Kt a sp t σ H Q:=h
theorem y3.same(h:y3 a H)(s:aj H H'):y3 a H':=let ⟨q,C,d,x,e⟩:=h;⟨q,C,d,x,s _ _ e⟩
theorem Gz{i:Nat}(hh:A.handled=some (.ref a))(ha:s.heap.get? a=some oa)(ZE:oa.data=.fields va)(h2:va[2]?=some .none)(hai:a≠it)(Av:s.heap.IsListIter it l i)(hl:s.heap.IsList l items)(hx:items[i]?=none)(hQ:∀ h',Heap.ExtBut it s.heap h'->Q none { s with heap:=h' }):wpAny (model prog w) A (pyNext (.ref it)) Q E s:=by
 obtain ⟨o,ho,hc,hd⟩:=id Av
 obtain ⟨ol,Uv,_,nl,Uw⟩:=hl
 unfold pyNext
 refine aac (wpAny_attempt (wpAny_callSpecial?_slot (name:=Str.ofString "__next__") Av.typeIs slot_listiter_next
  (wpAny_call_entry slot_listiter_next Av.typeIs entry_listiter_next ?_ (args_listiter_next _))))
 show wpAny _ _ (field (.ref it) 0 >>= _) _ _ s
 refine aac (wpAny_field ho hd (x:=.ref l) rfl ?_)
 show wpAny _ _ (if (Value.ref l == Value.none)=true then _ else _) _ _ s
 rw [if_neg (show ¬ ((Value.ref l == Value.none)=true) from Bool.false_ne_true)]
 show wpAny _ _ (field (.ref it) 1 >>= _) _ _ s
 refine aac (wpAny_field ho hd (x:=.int i 0) rfl ?_)
 show wpAny _ _ (seqItems? (.ref l) >>= _) _ _ s
 refine aac (wpAny_seqItems Uv Uw ?_)
 simp only [aa7,hx]
 refine aac (wpAny_rule (aac (wpAny_setField ho hd (by simp) ?_)))
 show wpAny _ _ (newExc (.type "StopIteration") [] >>= _) _ _ _
 refine aac ?_
 simp only [newExc,newTuple]
 refine aac (wpAny_newObj_type ?_ (by size_fits))
 refine aac (m:=firstArgMember _ _) (wpAny_of_eq (a:=Value.none) (by first|rfl|(simp only [firstArgMember];rfl)) ?_)
 refine wpAny_newObj_type ?_ (by size_fits)
 generalize hh1:s.heap.update it _=h1
 have GA:h1.get? a=some oa:=by rw [<- hh1];exact (Heap.get?_update_other _ _ (Ne.symm hai)).trans ha
 have e1:Heap.ExtBut it s.heap h1:=by rw [<- hh1];exact (Heap.SameBut.update ..).extBut
 generalize hT:h1.push _=IZ
 have Tq:IZ.get? a=some oa:=by rw [<- hT];exact aab _ GA
 have e2:Heap.ExtBut it s.heap IZ:=by rw [<- hT];exact e1.push _
 have fk:=aae Tq
 have rK:a≠IZ.objs.size:=aa1 fk
 show wpAny (model prog w) A.in1 (raiseNew (.ref IZ.objs.size)) _ _ { heap:=IZ.push { cls:=Value.type "StopIteration",data:=Data.fields (#[Value.ref h1.objs.size,Value.none,Value.none,Value.none,Value.bool false,Value.none]++ownMembersOf (Value.type "StopIteration") []) },gens:=s.gens,drawn:=s.drawn,toks:=s.toks,os:=s.os }
 generalize hO:({ cls:=Value.type "StopIteration",data:=Data.fields (#[Value.ref h1.objs.size,Value.none,Value.none,Value.none,Value.bool false,Value.none]++ownMembersOf (Value.type "StopIteration") []) }:Obj)=oE
 have hE3:(IZ.push oE).get? IZ.objs.size=some oE:=by rw [<- hO];exact aaf _ rfl
 have O5:(IZ.push oE).get? a=some oa:=aab _ Tq
 have e3:Heap.ExtBut it s.heap (IZ.push oE):=e2.push _
 unfold raiseNew
 refine aac (wpAny_handled ?_)
 rw [show A.in1.handled=some (.ref a) from hh]
 dsimp only
 rw [if_pos (by simpa using rK)]
 refine aac (wpAny_holding (runValue_entry (id:="proto.unchain") (b:=Builtin.«proto.unchain») wy ?_))
 unfold Builtin.«proto.unchain»
 refine aac (wpAny_field O5 ZE h2 ?_)
 rw [if_pos aa8]
 repeat (first|wp_step)
 refine⟨_,rfl,?_⟩
 subst hO
 repeat (first|with_reducible refine wpAny_loadPart_at hE3 ?_|wp_step)
 show wpAny (model prog w) A (isSubtype (.type "StopIteration") (.type "StopIteration")) _ _ _
 rw [isSubtype_stop]
 refine aap (aap (hQ _ fun b o hb e=>?_))
 have hbo:=aae e
 refine (Heap.get?_update_other _ _ (fun z=>?_)).trans (e3 b o hb e)
 have:=e2 b o hb e
 exact absurd (aae this) (by rw [z];exact Nat.lt_irrefl _)
def Nz(K:Frag)(a ae:Addr):It :=
 ⟨fun i H=>∃ xs x,aP K H a xs/\xs[i]?=some x,fun i H x H'=>H'=H/\∀ xs,aP K H a xs->xs[i]?=some x,fun i H=>y3 ae H/\∃ xs,aP K H a xs/\xs.length<=i⟩
theorem Dq{P:Program}{w:World}{K:Frag}{tg:Expr}(a it ae:Addr):Oq (fun Y=>Y.A.handled=some (.ref ae)) P w K tg (Nz K a ae) [it] it (fun i h=>h.IsListIter it a i) where
 obj:=(kx (P:=P) (w:=w) (K:=K) (tg:=tg) a it).obj
 keep:=(kx (P:=P) (w:=w) (K:=K) (tg:=tg) a it).keep
 item:=by
  intro X hP hw hK hc i pins s σ H E I hf st hg
  subst hP hw hK
  obtain ⟨xs,x,hq,hx⟩:=hg
  obtain ⟨its,rv,p,hz⟩:=I.list hq
  obtain ⟨u,hu,ru⟩:=rv.get hx
  obtain ⟨f0,f1,f2,f3,f4,f5⟩:=hf it (by simp)
  refine wpAny_pyNext_list_item st p.isList (x:=u) (by simpa using hu) fun h' gm sb=>?_
  have I1:Inv X pins σ H { s with heap:=h' }:=I.turned (t':=s.toks) (fun b o hb e=>(sb.2 b hb).trans e) f0 f1 f3 f4 f5
  obtain ⟨o,e,c,d⟩:=id gm
  exact⟨u,rfl,sY (s:={ s with heap:=h' }) e c d aa8 ⟨x,H,I1,ru,⟨rfl,fun ys hy=>by rw [I.sW hy hq];exact hx⟩,gm,fun b hb=>(hf b hb).1⟩⟩
 done:=by
  intro X hP hw hK hc i pins s σ H E I hf st hg
  subst hP hw hK
  obtain ⟨⟨q,C,d,YS,he⟩,xs,hq,hx⟩:=hg
  obtain ⟨its,rv,p,hz⟩:=I.list hq
  obtain ⟨f0,f1,f2,f3,f4,f5⟩:=hf it (by simp)
  obtain ⟨⟨oa,ha,_,_,_,hv⟩,_⟩:=I.bh ae _ he
  obtain ⟨va,ZE,h2⟩:=hv YS
  have hl:=rv.length
  exact Gz hc ha ZE h2 (fun z=>by rw [z,f0] at he;cases he) st p.isList (by simp;lia) fun h' eb=>⟨rfl,I.turned (t':=s.toks) (fun b o hb e=>eb b o hb e) f0 f1 f3 f4 f5⟩
 self:=(kx (P:=P) (w:=w) (K:=K) (tg:=tg) a it).self
def Ku(K:Frag)(ae:Addr)(tl:TE):TI:=fun σ H R=>tl σ H fun x H1=>∃ a,x=.ref a/\(∃ xs,aP K H1 a xs)/\R (Nz K a ae) H1
theorem GB{X:Cx}{tg l:Expr}{tl:TE}(K:Frag)(hK:X.K=K)(ae:Addr)(hl:PE X l tl):Xc (fun Y=>Y.A.handled=some (.ref ae)) X tg l (Ku K ae tl):=by
 subst hK
 intro pins s σ H R I h
 refine cu (hl pins s σ H _ I h) fun v s1 ⟨x,H1,I1,r1,q1⟩=>?_
 obtain ⟨a,e,⟨xs,hq⟩,q⟩:=q1
 subst e
 cases r1
 obtain ⟨its,rv,p,hz⟩:=I1.list hq
 refine wpAny_pyIter_list p.isList ?_
 refine⟨s1.heap.objs.size,[s1.heap.objs.size],_,_,H1,rfl,I1.kept (t':=s1.toks) fun b o e=>aab _ e,Dq a _ ae,⟨_,aaf _ rfl,rfl,rfl⟩,fun b hb=>?_,q⟩
 have e:b=s1.heap.objs.size:=by simpa using hb
 subst e
 exact I1.we (aah _) (I1.bh.fresh (aah _))
theorem Kv{K:Frag}{ae:Addr}{te:TE}{σ:St}{H:Hp}{R:It->Hp->Prop}(h:te σ H fun x H1=>∃ a,x=.ref a/\(∃ xs,aP K H1 a xs)/\R (Nz K a ae) H1):Ku K ae te σ H R:=h
theorem GC{K:Frag}{H:Hp}{σ:St}{Q:VK}{ix:List (Option Nat)}{l ae:Addr}{bs:List Bool}(gn:pick ix σ=[none])(hl:H l=some (.lst (bs.map V.bl)))(hn:bs.length<=1000)(he:y3 ae H)
  (k:∀ p H2,aj H H2->H2 p=some (.lst ((bs.filter id).map V.bl))->Q (.ref p) H2):aV ix (bu 0) (tB (sV 0)) (sV 0) σ Q (Nz K l ae) H:=by
 intro l2 PH
 have sH:∀ o,aj H (upd H l2 o):=fun o=>aj.aZ PH
 refine⟨fun i m σ1 ys H'=>i<=bs.length/\m=bs.length - i/\(∃ o,σ1=[o])/\ys=((bs.take i).filter id).map V.bl/\H'=upd H l2 (.lst ys),⟨_,aa0 _,rfl,⟨none,gn⟩,rfl,rfl⟩,?_⟩
 rintro i m σ1 ys H' ⟨hi,rfl,⟨o,rfl⟩,rfl,rfl⟩
 refine⟨aw,?_⟩
 by_cases h:i<bs.length
 ·refine .inr ⟨⟨_,.bl bs[i],aP.of (sH _ _ _ hl),by simp [h]⟩,bs.length - (i+1),aaa,fun x H2 ⟨e,hy⟩=>?_⟩
  subst e
  have hx:=hy _ (aP.of (sH _ _ _ hl))
  rw [aaQ,aat h] at hx
  obtain rfl:V.bl bs[i]=x:=aaj hx
  have et:bs.take (i+1)=bs.take i++[bs[i]]:=(List.take_append_getElem h).symm
  refine⟨.bl bs[i],rfl,bs[i],rfl,?_⟩
  cases eb:bs[i] with
  | true =>
   rw [if_pos rfl]
   refine⟨.bl true,rfl,aw,?_,aaa,rfl,⟨_,rfl⟩,by rw [et,eb];simp,?_⟩
   ·have:((bs.take i).filter id).length<=1000:=aag (aa4 _ _) (aag (length_take_le' _ _) hn)
    rw [aaz]
    exact aaG this aa8
   ·funext b
    unfold upd
    split <;> rfl
  | false =>
   rw [if_neg aa8]
   have e2:((bs.take i).filter id).map V.bl=((bs.take (i+1)).filter id).map V.bl:=by rw [et,eb];simp
   exact⟨aaa,rfl,⟨_,rfl⟩,e2,rfl⟩
 ·have e:bs.take i=bs:=aaU aaa
  rw [e]
  exact .inl ⟨⟨he.same (sH _),_,aP.of (sH _ _ _ hl),by simp;lia⟩,k l2 _ (sH _) aw⟩
end L2
namespace L2
open PySem PySem.Spec PyProof.Rows PySem.W
@[elab_as_elim] theorem V6 {α : Type} {P : List α -> Prop} (us : List α) (hl : us.length = 1) (h : ∀ a : α, P [a]) : P us := match us, hl with | [a], _ => h a
@[elab_as_elim] theorem V7 {α : Type} {P : List α -> Prop} (us : List α) (hl : us.length = 2) (h : ∀ a b : α, P [a, b]) : P us := match us, hl with | [a, b], _ => h a b
@[elab_as_elim] theorem ZF {α : Type} {P : List α -> Prop} (us : List α) (hl : us.length = 3) (h : ∀ a b c : α, P [a, b, c]) : P us := match us, hl with | [a, b, c], _ => h a b c
@[elab_as_elim] theorem ZG {α : Type} {P : List α -> Prop} (us : List α) (hl : us.length = 4) (h : ∀ a b c d : α, P [a, b, c, d]) : P us := match us, hl with | [a, b, c, d], _ => h a b c d
theorem dn.dg{K:Frag}{n:Str}{st:Stmt}{mg:Str->Option Value}{h:Heap}{ps:List Str}(q:dn K n st)(X:K.In h)(G0:h.Ns mainGlobals mg)
  (b:∀ (kV doc pm:Value) (an:Option Addr) (bf ct:Value) (us:List Value),us.length=ps.length->bindArgs (PySem.W.fnOf n n (cV st) (bw st) (al st) .none kV doc pm an bf ct) ⟨us,[]⟩=pure (ps.zip us):=by
   intro _ _ _ _ _ _ us hl
   first|exact V6 us hl fun _=>by kernel_rfl|exact V7 us hl fun _ _=>by kernel_rfl|exact ZF us hl fun _ _ _=>by kernel_rfl|exact ZG us hl fun _ _ _ _=>by kernel_rfl):Def K mg n st ps:=q.df X G0 b
abbrev Nx(K:Frag)(x:Str)(u:Addr):Prop:=nsIn K mainGlobals x=some (some (.ref u))
abbrev N0(K:Frag)(x:Str):Prop:=nsIn K mainGlobals x=some none
structure NA(K:Frag)(x:Str)(C:Addr):Prop where
 ns:Nx K x C
 h:A2 K C
 x:rM K C
 i:excIn K C [.type "ValueError",.type "Exception",.type "BaseException",.type "object"] "ValueError.__new__"=true
 v:subIn K (.ref C) (.type "ValueError")=some true
theorem RW {K:Frag} {x:Str} {C:Addr} {cd:ClassData} (a:nsIn K mainGlobals x=some (some (.ref C))) (b:typeIn K (.ref C)=some (.type "type")) (c:clsIn K C=some cd) (d:subIn K (.ref C) (.type "BaseException")=some true)
  (e:findIn K (.ref C) "__getattribute__"=some (some (.builtin "BaseException.__getattribute__"))) (f:findIn K (.ref C) "__getattr__"=some none) (g:findIn K (.ref C) "__class__"=some (some (.builtin "object.__class__"))) (i:specialIn K (.builtin "object.__class__") "__get__"=some (some (.builtin "getset_descriptor.__get__"))) (j:takesIn K (.builtin "object.__class__")=some true)
  (k:mroIn K C (.type "object")=some true) (l:excIn K C [.type "ValueError",.type "Exception",.type "BaseException",.type "object"] "ValueError.__new__"=true) (m:subIn K (.ref C) (.type "ValueError")=some true):NA K x C :=
 ⟨a,A2.mk' b c d,rM.mk' e f c g i j k d,l,m⟩
open PySem PySem.Spec PyProof.Rows
theorem nd(N:List Str)(h:N.Nodup:=by decide +kernel):N.Nodup:=h
section
variable {X:Cx}{a b e:Expr}{ta tb te:TE}{pos pos':Pos}{x:Str}{op:CmpOp}{r:R2}
theorem cy(i:Nat)(hN:X.N.Nodup)(he:PE X e te)(hi:X.N[i]?=some x:=by rfl)(hx:Loc X.env.scope x:=by exact Or.inl rfl)(hs:swapsWith e (some (.Name x pos')) pos.line X.env=pure false:=by rfl)(hf:X.fn x=true\/X.env.scope.names.lookup x=some .local:=by first|exact .inl rfl|exact .inr rfl|assumption):
  PS X (.Assign [.Name x pos'] e pos) (HQ te (bu i)):=eX hN hi hx he hs hf
theorem cX(K:Frag)(ha:PE X a ta)(hb:PE X b tb)(hK:X.K=K:=by rfl)(hs:Ez b:=by exact fun _ _=>rfl):PE X (.Subscript a b pos) (HW (Um K) ta tb):=xu (C0 K hK) ha hb hs
theorem y4(ho:gq X (compareOp op) r)(ha:PE X a ta)(hb:PE X b tb)(hm:behindInMarks op b=false:=by exact tj _):PE X (.Compare a [op] [b] pos) (HW r ta tb):=Em ho ha hb hm
theorem ptr(ho:gq X (compareOp op) r)(ha:PE X a ta)(hb:PE X b tb)(hm:behindInMarks op b=false:=by exact tj _):PT X (.Compare a [op] [b] pos) (Eo (HW r ta tb)):=gv ho ha hb hm
theorem kP(N:List Str)(ix:List (Option Nat))(hi:PI X tg iter wi)(hg:∀ pins C s H fp,PG (bL X pins N scope C s H fp) tg g)(ht:∀ pins C s H fp,Td (bL X pins N scope C s H fp) ifs tt)(he:∀ pins C s H fp,PE (bL X pins N scope C s H fp) elt te)(hc:X.calm=true:=by rfl)(hk:scope.kind=.function:=by rfl)(dJ:∀ y∈scope.names,y.2≠.cell:=by decide +kernel)(iJ:∀ y∈scope.names,y.2=.local->scope.names.lookup y.1=some .local:=by decide +kernel)(jt:(scope.names.all fun y=>!(y.2 == NameKind.free) || (X.env.cells.lookup y.1).isSome)=true:=by rfl)(Ar:jr X scope N ix:=by ((repeat (refine⟨⟨rfl,Or.inr (Or.inl rfl),rfl,rfl⟩,?_⟩));exact trivial))(hs:∀ x,foldedSetIterable iter X.env x=pure x:=by intro _;rfl):
  PE X (.ListComp elt [⟨tg,iter,ifs,0⟩] scope pos) (Aq ix wi g tt te):=Mt hc hi hg ht he hk dJ iJ jt Ar hs
end
end L2
namespace L2
open PySem PySem.Spec PyProof.Rows PySem.W
theorem Def.lD{P:Program}{w:World}{K:Frag}{mg:Str->Option Value}{base:Heap}{x:Str}{st:Stmt}{N ps:List Str}{k:Nat}{sp:Sp}(D:Def K mg x st ps)(S:ao N ps (al st))
  (di:∀ (f:Addr) (bf:Value) (A:Around) (outer:List Env) (s:Shared) (H:Hp) (vs:List V) (Q:VK) (E:XK),bK k (A.deeper (envOfC x (al st) s.heap.objs.size f bf))->sp vs H Q E ->
   ∃ t,oB (gP CJ P w K mg base N x (al st) f bf A outer s H E).Cp (bw st) t/\t { nx:=fun _ H'=>Q .cJ H',rt:=Q } (start N vs) H)
  (len:∀ vs H Q E,sp vs H Q E->vs.length=ps.length:=by intro _ _ _ _ h;cases h;rfl):Ok P w K mg base (k+1) x ps sp:=D.ok S len di
end L2

set_option maxHeartbeats 8000000
namespace Law
open eL (BP bY Oy Eqv LB cG Len Lo eY P5 PJ ED EF EE Pd CO EI CS iN AL SF SJ vT OB IM IP IQ IS IT IH II IJ IK IL Span QB VZ WI tL at' cB fH yu jB dj dt yy iL yw iM bo kF AE FZ iw gs kG Jf EK CQ oO fi cq EN low bC yv fI nB cm bO marked xE md bH bt aF mz fJ AQ dX lY xF EJ xG ss sub bB sub_len cK bx take_snoc AA jA bF bN jC bD valued cz ba aI)
open PySem L2
def top(i:Nat):Stmt:=PySem.Challenge.pw_tuningyard_k81_desk_commas_and_keys.main.body.getD i (.Pass ⟨0,0,0,0⟩)
abbrev gS:Stmt:=top 19
abbrev jI:Stmt:=top 20
abbrev iS:Stmt:=top 21
abbrev iT:Stmt:=top 22
abbrev mi:Stmt:=top 28
abbrev ua:Stmt:=top 29
abbrev o7:Stmt:=top 30
abbrev o8:Stmt:=top 31
abbrev Dr:Stmt:=top 33
abbrev y6:Stmt:=top 34
abbrev gT:Stmt:=top 35
abbrev mj:Stmt:=top 36
abbrev ub:Stmt:=top 37
abbrev eC:Stmt:=top 41
abbrev Dt:Stmt:=top 42
abbrev iU:Stmt:=top 43
abbrev o9:Stmt:=top 44
abbrev fQ:Stmt:=top 45
abbrev pe:Stmt:=top 46
abbrev fR:Stmt:=top 47
abbrev y8:Stmt:=top 48
abbrev ph:Stmt:=top 49
abbrev d6:Stmt:=top 50
abbrev Du:Stmt:=top 51
abbrev y9:Stmt:=top 53
abbrev zc:Stmt:=top 54
abbrev my:Stmt:=top 55
abbrev dG:Stmt:=top 56
abbrev gU:Stmt:=top 57
abbrev uc:Stmt:=top 58
abbrev fe:Stmt:=top 59
abbrev zd:Stmt:=top 60
abbrev fS:Stmt:=top 63
abbrev ud:Stmt:=top 64
abbrev iV:Stmt:=top 65
abbrev Dv:Stmt:=top 66
abbrev iW:Stmt:=top 81
abbrev jJ:Stmt:=top 104
abbrev gW:Stmt:=top 140
abbrev Dw:Stmt:=top 141
abbrev jK:Stmt:=top 143
abbrev fT:Stmt:=top 144
abbrev mB:Stmt:=top 145
abbrev iX:Stmt:=top 146
abbrev gX:Stmt:=top 147
abbrev eD:Stmt:=top 148
abbrev fU:Stmt:=top 149
abbrev gY:Stmt:=top 150
abbrev mC:Stmt:=top 162
abbrev mD:Stmt:=top 163
abbrev jL:Stmt:=top 164
abbrev pj:Stmt:=top 165
abbrev fV:Stmt:=top 166
abbrev jM:Stmt:=top 167
abbrev mE:Stmt:=top 168
abbrev mG:Stmt:=top 169
abbrev gZ:Stmt:=top 170
abbrev d7:Stmt:=top 171
abbrev fW:Stmt:=top 172
abbrev mH:Stmt:=top 173
abbrev jN:Stmt:=top 174
abbrev nR:Stmt:=top 175
abbrev cO:Stmt:=E4 (top 160) 0
abbrev cP:Stmt:=E4 (top 160) 1
def dot(a b:List Int):Int:=(List.zipWith (·*·) a b).sum
def val(w:List Int)(m:Int)(r:List Int):Int:=if m=0 then dot r w else dot r w % m
def ue(n:Nat)(r:List Int):Prop:=∀ x∈r,eT x<=n
theorem ue.mul{n m:Nat}(h1:ue n r)(h2:ue m q)(h:n+m<=1000000)(hl:r.length=q.length):∀ i,i<r.length->c7 (r.getD i 0) (q.getD i 0):=fun i hi=>by
 have a:=h1 (r.getD i 0) (by rw [List.getD,aat hi];exact aa5 hi)
 have b:=h2 (q.getD i 0) (by rw [List.getD,aat (hl ▸ hi)];exact aa5 _)
 unfold c7
 lia
def num(c b:Int):Int:=(c+b) % (2*b+1) - b
def vals(ks:List (List Int×Int))(r:List Int):List Int:=ks.map fun k=>val k.1 k.2 r
theorem mem_of{α:Type}{ks:List α}{i:Nat}{k:α}(h:ks[i]?=some k):k∈ks:=by
 obtain ⟨h1,h2⟩:=aad.mp h
 rw [<- h2]
 exact aa5 h1
theorem all_true(n:Nat):(List.replicate n true).all id=true:=by simp
def V8:Expr->Pos
 | .Call _ _ (⟨_,.Lambda _ _ _ p,_⟩::_) _=>p
 | _=>⟨0,0,0,0⟩
def RX:Stmt->Expr
 | .Assign _ v _=>v
 | _=>.Constant .none 0 ⟨0,0,0,0⟩
def RY:Stmt->List Stmt
 | .While _ b _ _=>b
 | _=>[]
theorem mI{M:Nat}{x:Int}(h:bY M r)(hx:x∈r):x.natAbs<=M:=by
 obtain ⟨i,hi,e⟩:=aa6 hx
 have:=h i
 rw [List.getD,aat hi,e] at this
 exact this
def jH(p:Nat)(v:List Int):List Int:=if v.getD p 0<0 then bH v (-1) else v
theorem Kw{p:Nat}(h:v.getD p 0≠0):0<(jH p v).getD p 0:=by
 unfold jH
 split
 ·rw [bt];lia
 ·lia
theorem NB{p:Nat}:at' p (jH p v)=at' p v:=by
 unfold jH at'
 split
 ·rw [bt];lia
 ·rfl
theorem Kx{p n:Nat}(h:v.length=n):(jH p v).length=n:=by
 unfold jH
 split
 ·exact aF h
 ·exact h
theorem NC{p B:Nat}(h:bY B v):bY B (jH p v):=by
 unfold jH
 split
 ·intro i
  rw [bt]
  have:=h i
  lia
 ·exact h
theorem RZ{α:Type}(f:α->Bool):∀ l:List α,(l.filter fun v=>!f v).length+(l.filter f).length=l.length
 | []=>rfl
 | x::l=>by
  have h:=RZ f l
  simp only [filter_cons,length_cons]
  cases f x <;> simp <;> lia
theorem Ky(p:Nat)(s:List Int)(rest:List (List Int)):(cq p s rest).length+(fi p s rest).length=rest.length:=by
 have h:=RZ (fun v:List Int=>v.getD p 0 == 0) (rest.map (bC p s))
 rw [aaz] at h
 have e:(cq p s rest)=(rest.map (bC p s)).filter (fun v=>!(v.getD p 0 == 0)):=rfl
 rw [e]
 unfold fi
 lia
theorem ze{b i:Nat}(hb:b<=109)(hi:i<5):gs b i<9000/\ss b (i+1)<400000:=by
 match i,hi with
 | 0,_|1,_|2,_|3,_|4,_=>simp only [gs,ss];lia
theorem Dx{b:Nat}(hb:b<=109):ss b 5<41000:=by
 show ss b (0+1+1+1+1+1)<41000
 simp only [gs,ss]
 lia
def ei(r:List Int)(n:Int)(q:List Int):List Int:=List.zipWith (fun x y=>x+n*y) r q
theorem getD_mem{q:List Int}{i:Nat}(h:i<q.length):q.getD i 0∈q:=by rw [List.getD,aat h];exact aa5 h
theorem kQ{n:Int}{m:Nat}(hr:r.length=m)(hq:q.length=m):(ei r n q).length=m:=by simp [ei,hr,hq]
theorem uf{n:Int}(hl:r.length=q.length){i:Nat}(h:i<r.length):(ei r n q).getD i 0=r.getD i 0+n*q.getD i 0:=by
 unfold ei
 rw [List.getD,getElem?_zipWith,aat h,aat (hl ▸ h),List.getD,aat h,List.getD,aat (hl ▸ h)]
 rfl
theorem GD{n:Int}(hl:r.length=q.length):(List.range (r.map V.int).length).map (fun i=>V.int (r.getD i 0+n*q.getD i 0))=(ei r n q).map V.int:=by
 apply ext_getElem
 ·simp [ei,hl]
 ·intro i h1 h2
  have hi:i<r.length:=by simpa using h1
  have:=uf (n:=n) hl hi
  rw [List.getD,aat (by simpa using h2)] at this
  simp only [getElem_map,getElem_range]
  rw [<- this]
  rfl
theorem GF{k:Int}{n:Nat}(hm:m.length=n)(hr:r.length=n):ei m k r=low m r (-k):=by
 refine bo (kQ hm hr) (bO hm hr) fun i hi=>?_
 rw [uf aaa aaa,cm hm hr,mul_neg,Int.mul_comm]
 lia
def cQ:List Int->List (List Int)->List Int->List Int
 | m,r::rs,n::ps=>cQ (ei m n r) rs ps
 | m,_,_=>m
theorem ug(r:List Int)(n:Int):∀ (m:List Int) (rs:List (List Int)) (ps:List Int),rs.length=ps.length->cQ m (rs++[r]) (ps++[n])=ei (cQ m rs ps) n r
 | m,[],[],_=>rfl
 | m,q::rs,k::ps,h=>by
  show cQ (ei m k q) (rs++[r]) (ps++[n])=ei (cQ (ei m k q) rs ps) n r
  exact ug r n _ rs ps (by simpa using h)
theorem kR{n:Nat}:∀ {m:List Int} {rs:List (List Int)} {ps:List Int},m.length=n->Len n rs->(cQ m rs ps).length=n
 | m,[],_,h,_=>by simp only [cQ];exact h
 | m,_::_,[],h,_=>by simp only [cQ];exact h
 | m,r::rs,k::ps,h,hl=>by
  show (cQ (ei m k r) rs ps).length=n
  exact kR (kQ h (hl r (.head _))) fun q hq=>hl q (.tail _ hq)
theorem uh{n:Nat}:∀ {m:List Int} {rs:List (List Int)} {ps:List Int},m.length=n->Len n rs->Span n as m->(∀ r∈rs,Span n as r)->Span n as (cQ m rs ps)
 | m,[],_,_,_,h,_=>by simp only [cQ];exact h
 | m,_::_,[],_,_,h,_=>by simp only [cQ];exact h
 | m,r::rs,k::ps,hm,hl,h,ha=>by
  show Span n as (cQ (ei m k r) rs ps)
  refine uh (kQ hm (hl r (.head _))) (fun q hq=>hl q (.tail _ hq)) ?_ fun q hq=>ha q (.tail _ hq)
  rw [GF hm (hl r (.head _))]
  exact Span.low hm (hl r (.head _)) h (ha r (.head _)) _
abbrev V9:Pos:=V8 (RX ((RY ((bw fQ).getD 2 (.Pass ⟨0,0,0,0⟩))).getD 0 (.Pass ⟨0,0,0,0⟩)))
abbrev bR (K:Frag) (H:Hp):Prop:=eB (yX K "parted") V9 "parted.<locals>.<lambda>" H
abbrev lO (K:Frag) (H H':Hp):Prop:=aU (yX K "parted") H H'
def ZH(ls:List Int)(p B j:Nat)(x:Int):Prop:=(p<j->x=0)/\(j=p->x=ls.getD j 0)/\(j<p->0<ls.getD j 0->0<=x/\x<ls.getD j 0)/\x.natAbs<=B
def ZI(ls:List Int)(p B:Nat)(xs:List Int):Prop:=∀ j,j<xs.length->ZH ls p B j (xs.getD j 0)
def LR(ls:List Int)(p B:Nat)(r:List Int):Prop:=r.length=5/\ZI ls p B r
theorem LR.bd{p B:Nat}(h:LR ls p B r):bY B r:=fun i=>by
 by_cases c:i<r.length
 ·exact (h.2 i c).2.2.2
 ·rw [List.getD,getElem?_eq_none aaa]
  exact aa0 _
def TS(ls:List Int)(B lo:Nat)(rs:List (List Int)):Prop:=SF rs/\∀ r∈rs,∃ p,lo<=p/\p<5/\0<ls.getD p 0/\LR ls p B r
theorem Bk:∀ {xs:List V} {rs:List (List Int)} (i:Nat),az K H xs rs->aC K H a (r.map V.int)->az K H (xs.set i (.ref a)) (rs.set i r)
 | _,_,_,.nil,_=>.nil
 | _,_,0,.cons _ t,h=>.cons h t
 | _,_,i+1,.cons g t,h=>.cons g (Bk i t h)
theorem ND{n j:Nat}(h:j<n):Io n (j:Int)=some j:=by
 unfold Io
 rw [if_pos aaa,if_pos aaa,aa7]
def lE(zs:List Int):Nat:=zs.foldl (fun g z=>Nat.gcd g z.natAbs) 0
theorem GG(zs:List Int)(z:Int):lE (zs++[z])=Nat.gcd (lE zs) z.natAbs:=by simp [lE]
theorem Bl:∀ (zs:List Int) (g:Nat),(zs.foldl (fun g z=>Nat.gcd g z.natAbs) g) ∣ g/\∀ z∈zs,(zs.foldl (fun g z=>Nat.gcd g z.natAbs) g) ∣ z.natAbs
 | [],g=>⟨Nat.dvd_refl _,fun _ z=>nomatch z⟩
 | z::zs,g=>by
  obtain ⟨h1,h2⟩:=Bl zs (Nat.gcd g z.natAbs)
  refine⟨Nat.dvd_trans h1 (Nat.gcd_dvd_left _ _),fun y hy=>?_⟩
  rcases aaC.mp hy with rfl|hy
  ·exact Nat.dvd_trans h1 (Nat.gcd_dvd_right _ _)
  ·exact h2 y hy
theorem ui{z:Int}(h:z∈zs):(lE zs:Int) ∣ z:=Int.ofNat_dvd_left.mpr ((Bl zs 0).2 z h)
theorem Kz{z:Int}(h:z∈zs)(hz:z≠0):0<lE zs:=by
 rcases eq_zero_or_pos (lE zs) with e|e
 ·have:=ui h
  rw [e] at this
  exact absurd (aaY.mp this) hz
 ·exact e
theorem KA{A M:Nat}:∀ {a b:List Int},(∀ i,(a.getD i 0).natAbs<=A)->(∀ i,(b.getD i 0).natAbs<=M)->(dt a b).natAbs<=b.length*(A*M)
 | [],b,_,_=>by simp [dt]
 | _::_,[],_,_=>by simp [dt]
 | x::a,y::b,ha,hb=>by
  have h:=KA (a:=a) (b:=b) (fun i=>by simpa using ha (i+1)) (fun i=>by simpa using hb (i+1))
  have h0:x.natAbs<=A:=by simpa using ha 0
  have h1:y.natAbs<=M:=by simpa using hb 0
  have h2:(x*y).natAbs<=A*M:=by rw [aaV];exact aaI h0 h1
  unfold dt at h ⊢
  simp only [zipWith_cons_cons,sum_cons,length_cons]
  rw [add_mul,one_mul,Nat.add_comm (_*_)]
  exact aag (Int.natAbs_add_le _ _) (add_le_add h2 h)
theorem KB:BP [] ((List.range 5).map fun i=>bF i 5):=by
 refine⟨by simp,fun h r hr=>.inr ⟨fun _ z=>(nomatch z),?_⟩,fun _ z=>(nomatch z)⟩
 have hh:h<5:=by have:=(aad.mp hr).1;simpa using this
 rw [aaQ,List.getElem?_range hh] at hr
 exact (aaj hr).symm
theorem NF{i k:Nat}(sf:SF st)(h:BP (st.take i) R)(hs:st[i]?=some s)(hk:cG s k)(h5:k<5):BP (st.take (i+1)) (R.set k s):=by
 have et:=take_snoc hs
 have rK:∀ q∈st.take i,∀ t,cG q t->t≠k:=fun q hq t ht e=>by
  subst e
  obtain ⟨n,hn,eq⟩:=aa6 hq
  have Ee:n<i:=by rw [aaO] at hn;lia
  have Ak:st[n]?=some q:=by
   have:(st.take i)[n]?=some q:=by rw [aat hn,eq]
   rw [getElem?_take,if_pos Ee] at this
   exact this
  have:=xG sf Ee Ak hs ht hk
  lia
 refine⟨by rw [List.length_set];exact h.len,fun t r hr=>?_,fun q hq t ht=>?_⟩
 ·rw [List.getElem?_set] at hr
  by_cases c:k=t
  ·subst c
   rw [if_pos rfl,if_pos (by rw [h.len];exact h5)] at hr
   cases hr
   exact .inl ⟨by rw [et];simp,hk⟩
  ·rw [if_neg c] at hr
   rcases h.at_ t r hr with ⟨z1,z2⟩|⟨z1,z2⟩
   ·exact .inl ⟨by rw [et];exact aav _ z1,z2⟩
   ·refine .inr ⟨fun q hq Je=>?_,z2⟩
    rw [et] at hq
    rcases aax.mp hq with y|y
    ·exact z1 q y Je
    ·rw [aaw.mp y] at Je
     exact c (hk.uniq Je)
 ·rw [et] at hq
  rw [List.getElem?_set]
  rcases aax.mp hq with y|y
  ·rw [if_neg (Ne.symm (rK q y t ht))]
   exact h.Xm q y t ht
  ·rw [aaw.mp y] at ht ⊢
   have e:=ht.uniq hk
   subst e
   rw [if_pos rfl,if_pos (by rw [h.len];exact h5)]
def Fa(ws:List Int)(ring:Int)(k:List Int×Int):Prop:=k.1.length=5/\0<=k.2/\(∀ c:List Int,c.length=5->(val k.1 k.2 c=0↔ring ∣ dt c ws))
theorem Fb{n:Nat}:∀ {a b:List Int} {d:Int},a.length=n->b.length=n->dt a (bH b d)=dt a b*d:=by
 induction n with
 | zero=>intro a b d ha hb;rw [length_eq_zero_iff.mp ha];simp [dt]
 | succ n ih =>
  intro a b d ha hb
  match a,b,ha,hb with
  | x::a,y::b,ha,hb =>
   have e:=ih (a:=a) (b:=b) (d:=d) (by simpa using ha) (by simpa using hb)
   unfold dt bH at e ⊢
   simp only [map_cons,zipWith_cons_cons,sum_cons]
   rw [e,Int.add_mul,Int.mul_assoc]
theorem R0{n:Nat}{m:Int}:∀ {a b:List Int},a.length=n->b.length=n->dt a (b.map (· % m)) % m=dt a b % m:=by
 induction n with
 | zero=>intro a b ha hb;rw [length_eq_zero_iff.mp ha];simp [dt]
 | succ n ih =>
  intro a b ha hb
  match a,b,ha,hb with
  | x::a,y::b,ha,hb =>
   have e:=ih (a:=a) (b:=b) (by simpa using ha) (by simpa using hb)
   unfold dt at e ⊢
   simp only [map_cons,zipWith_cons_cons,sum_cons]
   rw [add_emod,e,<- add_emod,add_emod,mul_emod,Int.emod_emod,<- mul_emod,<- add_emod]
theorem KD{d:Int}(hd:0<d)(lq:q.length=5)(e:ws=bH q d):Fa ws 0 (q,0):=by
 refine⟨lq,Int.le_refl _,fun c hc=>?_⟩
 unfold val
 rw [if_pos rfl,e,Fb hc lq]
 show dt c q=0↔_
 rw [aaY,aaX]
 exact⟨.inl,fun z=>z.elim id fun y=>by lia⟩
theorem KG{d m:Int}(hd:0<d)(hm:0<m)(lq:q.length=5)(e:ws=bH q d):Fa ws (d*m) (q.map (· % m),m):=by
 refine⟨by simp [lq],Int.le_of_lt hm,fun c hc=>?_⟩
 unfold val
 rw [if_neg (by show m≠0;lia),e,Fb hc lq]
 show dt c (q.map (· % m)) % m=0↔_
 rw [R0 hc lq,<- Int.dvd_iff_emod_eq_zero,Int.mul_comm d m]
 constructor
 ·exact fun z=>Int.mul_dvd_mul_right _ z
 ·exact fun z=>Int.dvd_of_mul_dvd_mul_right aaa z
theorem Bm{k:List Int×Int}(h:aY K H xs (k::ks)):∃ a w ys,xs=.ref a::ys/\aC K H a [.ref w,.int k.2]/\aC K H w (k.1.map V.int):=by
 cases h with
 | cons h1 h2 _=>exact⟨_,_,_,rfl,h1,h2⟩
theorem Bo:∀ {st:List (List Int)},(∀ r∈st,∃ k,cG r k)->∃ ks:List Nat,ks.length=st.length/\∀ (i:Nat) (s:List Int),st[i]?=some s->∃ k,ks[i]?=some k/\cG s k
 | [],_=>⟨[],rfl,fun i s h=>by simp at h⟩
 | r::st,h=>by
  obtain ⟨k,hk⟩:=h r (.head _)
  obtain ⟨ks,h1,h2⟩:=Bo (st:=st) fun q hq=>h q (.tail _ hq)
  refine⟨k::ks,by simp [h1],fun i s hs=>?_⟩
  cases i with
  | zero=>cases hs;exact⟨k,rfl,hk⟩
  | succ i=>exact h2 i s (by simpa using hs)
theorem uj{p:Nat}:∀ {ks:List Nat},LL (.int (p:Int)) (ks.map fun (k:Nat)=>V.int (k:Int))=true↔p∈ks
 | []=>by simp [LL]
 | k::ks=>by
  have ih:=uj (p:=p) (ks:=ks)
  unfold LL at ih ⊢
  rw [map_cons,any_cons,Bool.or_eq_true,ih,aaC]
  have:Mp (.int (k:Int)) (.int (p:Int))=true↔p=k:=by
   show ((k:Int) == (p:Int))=true↔p=k
   rw [beq_iff_eq]
   lia
  rw [this]
theorem GH(ks:List Nat):(ks.map fun (k:Nat)=>V.int (k:Int)).all ip=true:=by
 rw [all_eq_true]
 intro x hx
 obtain ⟨k,_,rfl⟩:=aaD.mp hx
 rfl
def wA(lam:Nat->Nat):Nat->Nat->Nat
 | _,0=>0
 | h,n+1=>lam h+wA lam (h+1) n
theorem O6(T:QB R)(hd:∀ (h:Nat) (r:List Int),R[h]?=some r->(r.getD h 0).natAbs<=2 ^ lam h):∀ n h,h+n=5->(Pd R h).natAbs<=2 ^ wA lam h n
 | 0,h,e=>by
  obtain rfl:h=5:=by lia
  rw [CO];exact aah _
 | n+1,h,e=>by
  have ih:=O6 T hd n (h+1) aaa
  obtain ⟨r,hr⟩:=FZ T.len (show h<5 by lia)
  rw [iN R aaa,iw hr,aaV,wA,pow_add]
  exact aaI (hd h r hr) ih
theorem Fc(lam:Nat->Nat):∀ h n,wA lam h n<=wA lam 0 (h+n)
 | 0,n=>by rw [zero_add];exact aah _
 | h+1,n=>by
  have h1:wA lam (h+1) n<=wA lam h (n+1):=Nat.le_add_left _ _
  have h2:=Fc lam h (n+1)
  rw [show h+(n+1)=h+1+n by rw [Nat.add_right_comm,Nat.add_assoc]] at h2
  exact aag h1 h2
theorem GI(lam:Nat->Nat)(n h:Nat)(e:h+n=5):wA lam h n<=wA lam 0 5:=e ▸ Fc lam h n
def Bp(st:List (List Int))(ks:List (List Int×Int)):Prop:=(∀ k∈ks,k.1.length=5/\(k.2=0\/2<=k.2)/\ue 400000 k.1/\∀ c,c.length=5->Span 5 st c->val k.1 k.2 c=0) /\
 (∀ row ρ:List Int,row.length=5->ρ.length=5->Span 5 st (sub row ρ)->(∀ s∈st,∀ k,cG s k->0<=ρ.getD k 0/\ρ.getD k 0<s.getD k 0)->ρ≠cz 5->∃ k∈ks,val k.1 k.2 row≠0)
def KP(st R:List (List Int))(p:Nat)(k:List Int×Int):Prop:=∃ ws ring,WI R p (Pd R 0) ws/\ws.length=5/\EJ st p (Pd R 0) ring/\Fa ws ring k/\ue 400000 k.1
theorem GJ{st R:List (List Int)}{ks:List (List Int×Int)}(b:BP st R)(sf:SF st)(hl:Len 5 st)(h5:ks.length=5)(h:∀ i k,ks[i]?=some k->KP st R i k):Bp st (ks.filter fun k=>k.2 != 1):=by
 refine⟨fun k hk=>?_,fun row ρ lr lp lX AM rK=>?_⟩
 ·obtain ⟨hk1,hk2⟩:=aaE.mp hk
  obtain ⟨i,hi,e⟩:=aa6 hk1
  obtain ⟨ws,ring,w1,w2,w3,w4,w5⟩:=h i k (by rw [aat hi,e])
  have hk3:k.2≠1:=by simpa using hk2
  have:=w4.2.1
  exact⟨w4.1,aaa,w5,fun c hc Tc=>(w4.2.2 c hc).mpr (Jf b sf hl w1 w2 w3 Tc)⟩
 ·obtain ⟨p,hp,UL,hz⟩:=EK lp rK
  obtain ⟨k,hk⟩:∃ k,ks[p]?=some k:=⟨ks[p]' aaa,aat _⟩
  obtain ⟨ws,ring,w1,w2,w3,w4,w5⟩:=h p k hk
  have hnd:=eL.tells b hl rfl w1 w2 w3 lp hp UL hz fun s hs lX=>AM s hs p lX
  have Tf:=Jf b sf hl w1 w2 w3 lX
  rw [iM lr lp w2] at Tf
  have hnr:¬ ring ∣ dt row ws:=fun z=>hnd (by
   have:=dvd_sub z Tf
   rwa [show dt row ws - (dt row ws - dt ρ ws)=dt ρ ws by lia] at this)
  have hv:val k.1 k.2 row≠0:=fun z=>hnr ((w4.2.2 row lr).mp z)
  refine⟨k,aaE.mpr ⟨aay hk,?_⟩,hv⟩
  rw [bne_iff_ne]
  intro e
  apply hv
  unfold val
  rw [e,if_neg aa8]
  lia
theorem KH{b:Nat}(hb:b<=109):wA (fun k=>gs b (4 - k)) 0 5<=13400:=by
 show gs b (3+1)+(gs b (2+1)+(gs b (1+1)+(gs b (0+1)+(gs b 0+0))))<=13400
 simp only [gs]
 lia
theorem rP{M b:Nat}(h:bY (2 ^ M) r)(hb:M<b):ue b r:=fun x hx=>by
 rw [cB]
 exact fH (aaG (mI h hx) (pow_lt_pow_right aa8 hb))
theorem zf{M:Nat}(h:∀ x∈r,x.natAbs<=M):bY M r:=fun i=>by
 by_cases hi:i<r.length
 ·exact h _ (getD_mem hi)
 ·rw [List.getD,getElem?_eq_none aaa]
  exact aa0 _
theorem NG(ws:List Int)(m:Int)(r:List Int):m ∣ dt r ws - val ws m r:=by
 have e:dot r ws=dt r ws:=rfl
 unfold val
 rw [e]
 split
 ·rw [Int.sub_self];exact aaW _
 ·exact⟨dt r ws / m,by rw [Int.emod_def];lia⟩
theorem Wa{b i w:Nat}(hb:b<=50000)(hw:w<=6)(hi:i<w):ss b (i+1)<60000000:=by
 have hi6:i<6:=by lia
 rcases (show i=0\/i=1\/i=2\/i=3\/i=4\/i=5 by lia) with rfl|rfl|rfl|rfl|rfl|rfl <;> simp only [gs,ss] <;> lia
theorem R1{W i:Nat}(hW:W<=190)(hi:i<=5):W+eL.lb W i+3<=50000:=by
 rcases (show i=0\/i=1\/i=2\/i=3\/i=4\/i=5 by lia) with rfl|rfl|rfl|rfl|rfl|rfl <;> simp only [eL.lb] <;> lia
theorem Bq{m:Int}{N:Nat}(h:(dt r ws).natAbs<=N)(h0:0<=m)(hm:m.natAbs<=N):(val ws m r).natAbs<=N:=by
 have e:dot r ws=dt r ws:=rfl
 unfold val
 rw [e]
 split
 ·exact h
 ·have h1:=emod_nonneg (dt r ws) (by assumption:m≠0)
  have h2:=emod_lt_of_pos (dt r ws) (show 0<m by lia)
  lia
theorem uk{n i:Nat}(hi:i<n):∀ {m:List Int} {rs:List (List Int)} {ps:List Int},m.length=n->Len n rs->(cQ m rs ps).getD i 0=m.getD i 0+dj i rs ps
 | m,[],_,_,_=>by simp only [cQ,dj];lia
 | m,_::_,[],_,_=>by simp only [cQ,dj];lia
 | m,r::rs,k::ps,h,hl=>by
  show (cQ (ei m k r) rs ps).getD i 0=m.getD i 0+(k*r.getD i 0+dj i rs ps)
  rw [uk hi (kQ h (hl r (.head _))) fun q hq=>hl q (.tail _ hq),uf (by rw [h,hl r (.head _)]) aaa]
  lia
def Hr(ks:List (List Int×Int))(r:List Int):Prop:=∃ k∈ks,val k.1 k.2 r≠0
instance (ks:List (List Int×Int)) (r:List Int):Decidable (Hr ks r):=inferInstanceAs (Decidable (∃ k∈ks,val k.1 k.2 r≠0))
theorem Wb{W i:Nat}(hW:W<=60)(hi:i<=6):eL.lb W i<=60000:=by
 rcases (show i=0\/i=1\/i=2\/i=3\/i=4\/i=5\/i=6 by lia) with rfl|rfl|rfl|rfl|rfl|rfl|rfl <;> simp only [eL.lb] <;> lia
def RB(f h:Int)(r:List Int):Prop:=∃ a0 a1 a2 a3 a4:Int,r=[a0,a1,a2,a3,a4]/\(-f<=a0/\a0<=f)/\(-h<=a1/\a1<=h)/\(-h<=a2/\a2<=h)/\(-h<=a3/\a3<=h)/\(-h<=a4/\a4<=h)
theorem RB.mono{f h f' h':Int}(x:RB f h r)(h1:f<=f')(h2:h<=h'):RB f' h' r:=by
 obtain ⟨a0,a1,a2,a3,a4,rfl,⟨_,_⟩,⟨_,_⟩,⟨_,_⟩,⟨_,_⟩,⟨_,_⟩⟩:=x
 exact⟨a0,a1,a2,a3,a4,rfl,aaa,aaa,aaa,aaa,aaa⟩
def Kn(K:Frag)(H:Hp)(v:V):Prop:=(∃ i,v=.int i)\/(∃ b,v=.bl b)\/v=.cJ\/(∃ s,v=.str s)\/(∃ a xs,v=.ref a/\aP K H a xs)\/(∃ a xs,v=.ref a/\aC K H a xs)
theorem Kn.same(h:Kn K H v)(s:aj H H'):Kn K H' v:=by
 rcases h with h|h|h|h|⟨a,xs,h,z⟩|⟨a,xs,h,z⟩
 ·exact .inl h
 ·exact .inr (.inl h)
 ·exact .inr (.inr (.inl h))
 ·exact .inr (.inr (.inr (.inl h)))
 ·exact .inr (.inr (.inr (.inr (.inl ⟨a,xs,h,s.seq z⟩))))
 ·exact .inr (.inr (.inr (.inr (.inr ⟨a,xs,h,s.at z⟩))))
def wh:V->Bool
 | .int _=>true
 | _=>false
def NT(K:Frag)(H:Hp)(v:V):Prop:=(∃ i,v=.int i)\/v=.cJ\/(∃ s,v=.str s)\/(∃ a xs,v=.ref a/\aP K H a xs)
def Odd(K:Frag)(H:Hp)(v:V):Prop:=(∃ (a:Addr) (xs:List V),v=.ref a/\aC K H a xs/\xs.length<=1000/\(∀ x∈xs,Kn K H x)/\(decide (xs.length=5) && xs.all wh)=false)\/NT K H v
def fits(x0 x1 x2 x3 x4:Int):Bool:=[decide ((if x0<0 then -x0 else x0)<=700),decide ((if x1<0 then -x1 else x1)<=60),decide ((if x2<0 then -x2 else x2)<=60),decide ((if x3<0 then -x3 else x3)<=60),decide ((if x4<0 then -x4 else x4)<=60)].all id
theorem qw{i:Int}(h:i<10 ^ 60):i.toNat<10 ^ 60:=by lia
theorem O7{i:Int}(h0:1<=i)(h:i<10 ^ 60):i.natAbs<2 ^ 1920:=Nat.lt_of_lt_of_le (show i.natAbs<10 ^ 60 by lia) (aag (show 10 ^ 60<=2 ^ 240 by decide +kernel) (aaF aa8 aa8))
theorem back(a:Int)(e:Nat):((a.toNat+e:Nat):Int) - (((-a).toNat+e:Nat):Int)=a:=by lia
theorem NH{a0 a1 a2 a3 a4:Int}(h:RB 700 60 [a0,a1,a2,a3,a4]):fits a0 a1 a2 a3 a4=true:=by
 obtain ⟨b0,b1,b2,b3,b4,e,_,_,_,_,_⟩:=h
 cases e
 unfold fits
 rw [aan (show (if a0<0 then -a0 else a0)<=700 by split <;> lia),aan (show (if a1<0 then -a1 else a1)<=60 by split <;> lia),aan (show (if a2<0 then -a2 else a2)<=60 by split <;> lia),aan (show (if a3<0 then -a3 else a3)<=60 by split <;> lia),aan (show (if a4<0 then -a4 else a4)<=60 by split <;> lia)]
 rfl
abbrev RR:=V ⊕ Addr->Hp->Prop
def O8(F:List V->Hp->RR->Prop):Sp:=fun vs H Q E=>∃ R:RR,F vs H R/\(∀ v H',R (.inl v) H'->Q v H')/\∀ c H',R (.inr c) H'->E (.ref c) none H'
def mkR(Qv:V->Hp->Prop)(Qc:Addr->Hp->Prop):RR:=fun x H=>x.elim (fun v=>Qv v H) fun c=>Qc c H
def Nm(K:Frag)(x:Str)(C:Addr):Prop:=PySem.W.nsIn K mainGlobals x=some (some (.ref C))
def Dk (K:Frag) (d c k:Addr) (H:Hp):Prop:=∃ (C dx:Addr) (t h:V),Nm K "Desk" C/\H d=some (.ins C dx [("commas",.ref c),("own_keys",.ref k),("tunes",t),("chords",h)])
def Ch(d:Addr)(H H':Hp):Prop:=∀ b o,b≠d->H b=some o->H' b=some o
def Tp(K:Frag)(H H':Hp):Prop:=∀ a xs,aC K H a xs->aC K H' a xs
section
variable {K:Frag}{H H' H0:Hp}{d l lc lk c k:Addr}{o:HO}
theorem ZJ(s:lO K H H')(t:bR K H):Tp K H H':=fun _ _ h=>s.at t h
theorem Ch.tp(s:Ch d H H')(e:H d=some o)(n:∀ xs,o≠.tup xs)(m:∀ x xs,o≠.wb x (.tup xs)):Tp K H H':=fun a xs h=>by
 refine h.imp (fun z=>z.imp (fun e'=>s _ _ (fun w=>?_) e') fun ⟨x,e'⟩=>⟨x,s _ _ (fun w=>?_) e'⟩) id
 ·rw [w,e] at e';exact n _ (aaj e')
 ·rw [w,e] at e';exact m _ _ (aaj e')
theorem Ch.new(s:Ch d H H')(n:H' b=none)(h:b≠d):H b=none:=by
 cases e:H b with
 | none=>rfl
 | some o=>rw [s b o h e] at n;cases n
theorem Ch.trans(s:Ch d H H')(u:Ch d H' H2):Ch d H H2:=fun b o n e=>u b o n (s b o n e)
theorem KI(s:aj H H'):Ch d H H':=fun b o _ e=>s b o e
theorem d8:Ch l H (upd H l o):=fun b u n e=>by rw [ay n];exact e
theorem KJ(s:Tp K H H'):∀ {xs:List V} {rs:List (List Int)},az K H xs rs->az K H' xs rs
 | _,_,.nil=>.nil
 | _,_,.cons h u=>.cons (s _ _ h) (KJ s u)
theorem KL(s:Tp K H H'):∀ {xs:List V} {ks:List (List Int×Int)},aY K H xs ks->aY K H' xs ks
 | _,_,.nil=>.nil
 | _,_,.cons h hw u=>.cons (s _ _ h) (s _ _ hw) (KL s u)
theorem ZK(h:aC K H a (r.map V.int)):∀ {xs:List V} {rs:List (List Int)},az K H xs rs->az K H (xs++[.ref a]) (rs++[r])
 | _,_,.nil=>.cons h .nil
 | _,_,.cons x u=>.cons x (ZK h u)
theorem XB{m:Int}(h:aC K H a [.ref w,.int m])(hw:aC K H w (r.map V.int)):∀ {xs:List V} {ks:List (List Int×Int)},aY K H xs ks->aY K H (xs++[.ref a]) (ks++[(r,m)])
 | _,_,.nil=>.cons h hw .nil
 | _,_,.cons x y u=>.cons x y (XB h hw u)
structure St(K:Frag)(d lc lk:Addr)(H0:Hp)(r1 r2:List (List Int))(q1 q2:List (List Int×Int))(H:Hp):Prop where
 ex:∃ (c k:Addr) (xs ys us vs:List V),Dk K d c k H/\(H c=some (.lst xs)/\az K H xs r1)/\(H k=some (.lst ys)/\aY K H ys q1)/\(H lc=some (.lst us)/\az K H us r2)/\(H lk=some (.lst vs)/\aY K H vs q2)/\c≠lc/\c≠lk/\k≠lc/\k≠lk/\lc≠lk
 tb:bR K H
 s0:lO K H0 H
 n0:H0 d=none/\H0 lc=none/\H0 lk=none
variable {r1 r2:List (List Int)}{q1 q2:List (List Int×Int)}
theorem St.NI(s:St K d lc lk H0 r1 r2 q1 q2 H)(u:lO K H H')(t:bR K H'):St K d lc lk H0 r1 r2 q1 q2 H':=by
 obtain ⟨⟨c,k,xs,ys,us,vs,⟨C,dx,t1,t2,hC,hd⟩,⟨m1,w1⟩,⟨m2,w2⟩,⟨m3,w3⟩,⟨m4,w4⟩,n⟩,tb,s0,n0⟩:=s
 have p:=ZJ u tb
 obtain ⟨ps,hP⟩:=tb.at
 exact⟨⟨c,k,xs,ys,us,vs,⟨C,dx,t1,t2,hC,u _ _ (fun w=>by rw [w,hP] at hd;cases hd) hd⟩,⟨u.lst tb m1,KJ p w1⟩,⟨u.lst tb m2,KL p w2⟩,⟨u.lst tb m3,KJ p w3⟩,⟨u.lst tb m4,KL p w4⟩,n⟩,t,s0.trans u,n0⟩
theorem St.same(s:St K d lc lk H0 r1 r2 q1 q2 H)(u:aj H H'):St K d lc lk H0 r1 r2 q1 q2 H':=s.NI (.of u) (s.tb.same u)
theorem um(t:bR K H)(s:Ch l H H')(e:H l=some o)(n:∀ ps,o≠.sR ps)(m:∀ c q,o≠qr c q):bR K H':=by
 obtain ⟨ps,h1,h2,h3⟩:=t
 refine⟨ps,s _ _ (fun z=>by rw [z,e] at h1;exact n _ (aaj h1)) h1,h2,h3.imp id fun ⟨c,hc,hz⟩=>⟨c,hc,s _ _ (fun z=>by rw [z,e] at hz;exact m _ _ (aaj hz)) hz⟩⟩
theorem uo(s:lO K H0 H)(u:Ch l H H')(n:H0 l=none):lO K H0 H':=fun b o hb e=>u _ _ (fun z=>by rw [z,n] at e;cases e) (s b o hb e)
theorem St.ZL(s:St K d lc lk H0 r1 r2 q1 q2 H)(h:aC K H a (r.map V.int))(e:H lc=some (.lst us)):St K d lc lk H0 r1 (r2++[r]) q1 q2 (upd H lc (.lst (us++[.ref a]))):=by
 obtain ⟨⟨c,k,xs,ys,us',vs,⟨C,dx,t1,t2,hC,hd⟩,⟨m1,w1⟩,⟨m2,w2⟩,⟨m3,w3⟩,⟨m4,w4⟩,n1,n2,n3,n4,n5⟩,tb,s0,n0⟩:=s
 rw [e] at m3
 cases m3
 have p:Tp K H (upd H lc (.lst (us++[.ref a]))):=d8.tp e (fun _ z=>nomatch z) (fun _ _ z=>nomatch z)
 refine⟨⟨c,k,xs,ys,_,vs,⟨C,dx,t1,t2,hC,?_⟩,⟨?_,KJ p w1⟩,⟨?_,KL p w2⟩,⟨aw,ZK (p _ _ h) (KJ p w3)⟩,⟨?_,KL p w4⟩,n1,n2,n3,n4,n5⟩,um tb d8 e (fun _ z=>nomatch z) (fun _ _ z=>nomatch z),uo s0 d8 n0.2.1,n0⟩
 ·rw [ay (fun z=>by rw [z,e] at hd;cases hd)];exact hd
 ·rw [ay n1];exact m1
 ·rw [ay n3];exact m2
 ·rw [ay (Ne.symm n5)];exact m4
theorem St.ZM(s:St K d lc lk H0 r1 r2 q1 q2 H){m:Int}(h:aC K H a [.ref w,.int m])(hw:aC K H w (r.map V.int))(e:H lk=some (.lst vs)):St K d lc lk H0 r1 r2 q1 (q2++[(r,m)]) (upd H lk (.lst (vs++[.ref a]))):=by
 obtain ⟨⟨c,k,xs,ys,us,Xr,⟨C,dx,t1,t2,hC,hd⟩,⟨m1,w1⟩,⟨m2,w2⟩,⟨m3,w3⟩,⟨m4,w4⟩,n1,n2,n3,n4,n5⟩,tb,s0,n0⟩:=s
 rw [e] at m4
 cases m4
 have p:Tp K H (upd H lk (.lst (vs++[.ref a]))):=d8.tp e (fun _ z=>nomatch z) (fun _ _ z=>nomatch z)
 refine⟨⟨c,k,xs,ys,us,_,⟨C,dx,t1,t2,hC,?_⟩,⟨?_,KJ p w1⟩,⟨?_,KL p w2⟩,⟨?_,KJ p w3⟩,⟨aw,XB (p _ _ h) (p _ _ hw) (KL p w4)⟩,n1,n2,n3,n4,n5⟩,um tb d8 e (fun _ z=>nomatch z) (fun _ _ z=>nomatch z),uo s0 d8 n0.2.2,n0⟩
 ·rw [ay (fun z=>by rw [z,e] at hd;cases hd)];exact hd
 ·rw [ay n2];exact m1
 ·rw [ay n4];exact m2
 ·rw [ay n5];exact m3
end
def Ad:List Int->Str
 | [a0,a1,a2,a3,a4]=>bz.lJ (AA a0 a1 a2 a3 a4).toNat++bz.aO++bz.lJ (yu a0 a1 a2 a3 a4).toNat
 | _=>Str.empty
theorem Fd{a0 a1 a2 a3 a4:Int}(h:RB 18 4 [a0,a1,a2,a3,a4]):AA a0 a1 a2 a3 a4<10 ^ 60/\yu a0 a1 a2 a3 a4<10 ^ 60:=by
 obtain ⟨_,_,_,_,_,e,_,_,_,_,_⟩:=h
 cases e
 exact⟨Int.lt_of_le_of_lt (lY (a':=18) (b':=4) (c':=4) (d':=4) (e':=4) aaa aaa aaa aaa aaa) TH,Int.lt_of_le_of_lt (lY (a':=18) (b':=4) (c':=4) (d':=4) (e':=4) aaa aaa aaa aaa aaa) TH⟩
theorem gA(h:RB 18 4 r):(Ad r).length<=121:=by
 have h':=h
 obtain ⟨a0,a1,a2,a3,a4,rfl,_⟩:=h
 have t:=Fd h'
 have l1:=bz.eV (m:=60) aa8 (qw t.1)
 have l2:=bz.eV (m:=60) aa8 (qw t.2)
 show (bz.lJ _++bz.aO++bz.lJ _).length<=121
 rw [PySem.strLen_append,PySem.strLen_append]
 show _+1+_<=_
 lia
abbrev nw(n:Int):Str:=Str.ofString (toString n)
abbrev bk:Str:=⟨#[32]⟩
def Tr(w0:Str)(ws:List Str):Str:=Str.join bk (w0::ws)
def px:List (Str×Nat):=[("comma",1),("key",5),("ring",6),("nothing",1),("sound",1),("same",0)]
def Ln (w0:Str) (ws:List Str):Prop:=(w0,ws.length)∈px/\(∀ w∈ws,32∉w.cps.toList/\w.length<=200)/\((w0 = "key"\/w0 = "ring")->∀ w∈ws,(kI.AU w 4).isSome=true)
def ZN(K:Frag)(vs:List V)(H:Hp)(R:RR):Prop:=∃ (d l c k:Addr) (z:Str) (xs:List V),vs=[.ref d,.ref l]/\aP K H l [.str z]/\Dk K d c k H/\H c=some (.lst xs)/\xs.length<=6 /\
 ((z = "5"/\∀ C H',Nm K "NoSpan" C->aj H H'->R (.inr C) H')\/(z = "127173474825648610542883299603/1"/\∀ C H',Nm K "TooFar" C->aj H H'->R (.inr C) H') \/
 ∃ r,z=Ad r/\RB 18 4 r/\(xs.length=6->∀ C H',Nm K "NoCommas" C->aj H H'->R (.inr C) H')/\(xs.length<6->∀ (p c':Addr) H',H c'=none->c'≠d->Ch d H H'->Dk K d c' k H'->H' c'=some (.lst (xs++[.ref p]))->aC K H' p (r.map V.int)->R (.inl (.str (nw ((xs.length:Int)+1)))) H'))
def R3 (K:Frag) (d c:Addr) (ys:List V) (w:List Int) (m:Int) (H:Hp) (R:RR):Prop:=(ys.length=6->∀ C H',Nm K "NoKeys" C->aj H H'->R (.inr C) H')/\(ys.length<6->∀ (p q k':Addr) H',H k'=none->k'≠d->Ch d H H'->Dk K d c k' H'->H' k'=some (.lst (ys++[.ref p]))->aC K H' p [.ref q,.int m]->aC K H' q (w.map V.int)->R (.inl (.str (nw ((ys.length:Int)+1)))) H')
def R4(K:Frag)(d c k:Addr)(ys:List V)(qs:List (List Int×Int))(m:Int)(H:Hp):Prop:=Dk K d c k H/\H k=some (.lst ys)/\aY K H ys qs/\ys.length<=6/\(∀ q∈qs,q.2=0\/2<=q.2)/\(m=0\/2<=m)
theorem R3.same{m:Int}{R:RR}(s:aj H H')(h:R3 K d c ys w m H R):R3 K d c ys w m H' R :=
 ⟨fun e C H2 n s2=>h.1 e C H2 n (s.trans s2),fun e p q k' H2 n nd ch=>h.2 e p q k' H2 (s.new n) nd fun b o z e=>ch b o z (s _ _ e)⟩
def Dy(w:List Int):Prop:=∀ x∈w,-9999<=x/\x<=9999
def ZO(K:Frag)(vs:List V)(H:Hp)(R:RR):Prop:=∃ (d l c k:Addr) (ys:List V) (qs:List (List Int×Int)) (w:List Int),vs=[.ref d,.ref l]/\aP K H l ((w.map nw).map V.str)/\w.length=5/\Dy w/\R4 K d c k ys qs 0 H/\R3 K d c ys w 0 H R
def ZP(K:Frag)(vs:List V)(H:Hp)(R:RR):Prop:=∃ (d l c k:Addr) (ys:List V) (qs:List (List Int×Int)) (w:List Int) (m:Int),vs=[.ref d,.ref l]/\aP K H l (((m::w).map nw).map V.str)/\w.length=5/\Dy (m::w)/\R4 K d c k ys qs m H/\R3 K d c ys w m H R
def Fe(rs:List (List Int)):Prop:=rs.length<=6/\∀ r∈rs,RB 9 2 r
def KM(qs:List (List Int×Int)):Prop:=qs.length<=6/\∀ q∈qs,q.1.length=5/\Dy q.1/\(q.2=0\/2<=q.2)/\q.2<=40
def yn (b:Bool):Str:=if b=true then "yes" else "no"
def ZQ(K:Frag)(vs:List V)(H:Hp)(R:RR):Prop:=∃ (d l c k:Addr) (xs:List V) (rs:List (List Int)) (r:List Int),vs=[.ref d,.ref l]/\aP K H l [.str (Ad r)]/\RB 18 4 r/\Dk K d c k H/\H c=some (.lst xs)/\az K H xs rs/\Fe rs/\bR K H/\∀ (b:Bool) H',lO K H H'->bR K H'->(b=true↔Span 5 rs r)->R (.inl (.str (yn b))) H'
def sdt(qs:List (List Int×Int))(r:List Int):Str:=Str.join bk (qs.map fun q=>nw (val q.1 q.2 r))
def ZR(K:Frag)(vs:List V)(H:Hp)(R:RR):Prop:=∃ (d l c k:Addr) (ys:List V) (qs:List (List Int×Int)) (r:List Int),vs=[.ref d,.ref l]/\aP K H l [.str (Ad r)]/\RB 18 4 r/\Dk K d c k H/\H k=some (.lst ys)/\aY K H ys qs/\KM qs/\∀ H',aj H H'->R (.inl (.str (sdt qs r))) H'
def Sme(rs:List (List Int))(qs:List (List Int×Int)):Prop:=∀ r:List Int,r.length=5->(∀ q∈qs,VZ q.1 q.2 r)->Span 5 rs r
def XD (K:Frag) (rs:List (List Int)) (qs:List (List Int×Int)) (H:Hp) (Q:VK):Prop:=(∀ (i:Nat) H',i<rs.length->Hr qs (rs.getD i [])->(∀ j,j<i->¬ Hr qs (rs.getD j []))->lO K H H'->bR K H'->Q (.str ("comma "++nw i)) H')/\(∀ (b:Bool) H',(∀ r∈rs,¬ Hr qs r)->(b=true↔Sme rs qs)->lO K H H'->bR K H'->Q (.str (if b=true then "same" else "span")) H')
def smP(K:Frag)(rs:List (List Int))(qs:List (List Int×Int))(H:Hp)(R:RR):Prop:=XD K rs qs H fun v H'=>R (.inl v) H'
def ZS(K:Frag)(vs:List V)(H:Hp)(R:RR):Prop:=∃ (d l c k:Addr) (xs ys:List V) (rs:List (List Int)) (qs:List (List Int×Int)),vs=[.ref d,.ref l]/\Dk K d c k H/\H c=some (.lst xs)/\az K H xs rs/\Fe rs/\H k=some (.lst ys)/\aY K H ys qs/\KM qs/\bR K H/\smP K rs qs H R
def Tld(K:Frag)(d:Addr)(z:Str)(H:Hp)(R:RR):Prop:=∃ (c k:Addr) (w0:Str) (ws:List Str),Dk K d c k H/\z=Tr w0 ws/\Ln w0 ws/\∀ l H',aj H H'->H' l=some (.lst (ws.map V.str)) ->
 (w0 = "comma"/\ZN K [.ref d,.ref l] H' R)\/(w0 = "key"/\ZO K [.ref d,.ref l] H' R)\/(w0 = "ring"/\ZP K [.ref d,.ref l] H' R)\/(w0 = "nothing"/\ZQ K [.ref d,.ref l] H' R)\/(w0 = "sound"/\ZR K [.ref d,.ref l] H' R)\/(w0 = "same"/\ZS K [.ref d,.ref l] H' R)
def Cw (K:Frag) (C:Addr) (w:Str):Prop:=(Nm K "TooFar" C/\w = "TooFar")\/(Nm K "NoSpan" C/\w = "NoSpan")\/(Nm K "NoCommas" C/\w = "NoCommas")\/(Nm K "NoKeys" C/\w = "NoKeys")
theorem NJ:Oy 1:=fun p hp=>by rcases hp with rfl|rfl|rfl|rfl|rfl <;> decide
theorem iY{i:Int}(h:i.natAbs<2 ^ 100):i.natAbs.log2<1920:=bz.CV (lt_trans h (pow_lt_pow_right aa8 aa8))
theorem O9(l:r.length=5):sub r (cz 5)=r:=bo (sub_len l (aI 5)) l fun i _=>by rw [bB l (aI 5),ba,Int.sub_zero]
theorem KN(sf:SF st)(hl:Len 5 st)(he:Eqv 5 rs st)(lr:r.length=5)(ls:s.length=5)(h1:Span 5 st (sub r s))(h2:∀ x∈st,∀ k,cG x k->0<=s.getD k 0/\s.getD k 0<x.getD k 0):s=cz 5↔Span 5 rs r:=by
 constructor
 ·intro e
  rw [e,O9 lr] at h1
  exact h1.of he.2
 ·intro h
  refine xF sf hl lr ls (aI 5) h1 (by rw [O9 lr];exact he.span h) h2 fun x _ k hk=>?_
  rw [ba]
  exact⟨Int.le_refl _,hk.1⟩
section
variable {K:Frag}{H H':Hp}{d c k:Addr}
theorem Dk.same(h:Dk K d c k H)(s:aj H H'):Dk K d c k H':=let ⟨C,dx,t,u,n,e⟩:=h;⟨C,dx,t,u,n,s _ _ e⟩
theorem R4.same{m:Int}(s:aj H H')(h:R4 K d c k ys qs m H):R4 K d c k ys qs m H':=⟨h.1.same s,s _ _ h.2.1,h.2.2.1.same s,h.2.2.2⟩
end
theorem Pa{w:List Int}{n:Nat}(h:n=w.length):((List.range n).map fun j=>V.int (w.getD j 0))=w.map V.int:=by
 subst h
 refine ext_getElem (by simp) fun i h1 h2=>?_
 simp at h1
 rw [getElem_map,getElem_map,getElem_range,List.getD,aat h1]
 rfl
theorem Pb{w:List Int}{j:Nat}{x:V}(h:((w.map nw).map V.str)[j]?=some x):x=.str (nw (w.getD j 0))/\w.getD j 0∈w:=by
 rw [aaQ,aaQ] at h
 cases e:w[j]? with
 | none=>rw [e] at h;cases h
 | some v =>
  rw [e] at h
  cases h
  rw [List.getD,e]
  exact⟨rfl,aay e⟩
theorem Dz{x:Int}(h:-9999<=x/\x<=9999):PySem.intText? (nw x)=some x/\(nw x).length<=640:=by
 have h1:=kI.yH h.1 h.2
 exact⟨(kI.MK aa8 h1.1).1,aag h1.2 aa8⟩
theorem fX{f g:Int}{M:Nat}(h:RB f g r)(h1:f.toNat<=M)(h2:g.toNat<=M):r.length=5/\bY M r:=by
 obtain ⟨a0,a1,a2,a3,a4,rfl,b0,b1,b2,b3,b4⟩:=h
 refine⟨rfl,zf fun x hx=>?_⟩
 simp only [aaC,not_mem_nil,or_false] at hx
 rcases hx with rfl|rfl|rfl|rfl|rfl <;> lia
theorem pA{M:Nat}(h:Dy w)(hM:9999<=M):bY M w:=zf fun x hx=>by have:=h x hx;lia
theorem uq(lr:row.length=5)(h5:Len 5 rs)(h:∀ j,j<5->row.getD j 0=dj j rs ps):Span 5 rs row:=by
 have ep:cQ (cz 5) rs ps=row:=by
  refine bo (n:=5) (kR (m:=cz 5) rfl h5) lr fun j hj=>?_
  rw [uk (n:=5) (m:=cz 5) hj rfl h5,h j hj,ba]
  lia
 rw [<- ep]
 exact uh rfl h5 Span.zero fun r hr=>Span.mem hr
theorem ur{x:Int}(h:x.natAbs<10 ^ 6):(nw x).length<=7:=by
 by_cases h0:0<=x
 ·show (Str.ofString (toString x)).length<=7
  rw [bz.QE h0]
  exact aag (bz.eV (m:=6) aa8 aaa) aa8
 ·obtain ⟨n,rfl⟩:∃ n:Nat,x=-((n+1:Nat):Int):=⟨x.natAbs - 1,aaa⟩
  have e:=congrArg List.length (kI.AV n)
  have l:=bz.eV (n:=n+1) (m:=6) aa8 aaa
  rw [length_cons] at e
  have e1:(Str.ofString (toString (-((n+1:Nat):Int)))).cps.toList.length=(nw (-((n+1:Nat):Int))).length:=Array.length_toList
  have e2:(bz.lJ (n+1)).cps.toList.length=(bz.lJ (n+1)).length:=Array.length_toList
  lia
theorem DA{q:List Int×Int}(h:q.1.length=5/\Dy q.1/\(q.2=0\/2<=q.2)/\q.2<=40)(hr:RB 18 4 r):(val q.1 q.2 r).natAbs<10 ^ 6:=by
 have h1:=KA (fX (M:=18) hr aa8 aa8).2 (pA h.2.1 (aah _))
 rw [h.1] at h1
 exact aaG (Bq (N:=5*(18*9999)) h1 aaa aaa) aa8
theorem DB{zs:List Str}(h:∀ z∈zs,z.length<=7):(zs.map (·.length)).sum<=7*zs.length:=by
 induction zs with
 | nil=>simp
 | cons z zs ih =>
  have h1:=h z (.head _)
  have h2:=ih fun y hy=>h y (.tail _ hy)
  simp only [map_cons,sum_cons,length_cons]
  lia
theorem Ff{q:List Int×Int}(h:q.1.length=5/\Dy q.1/\(q.2=0\/2<=q.2)/\q.2<=40)(hr:RB 18 4 r):(val q.1 q.2 r).natAbs.log2<1920:=iY (lt_trans (DA h hr) TH)
theorem Br:∀ bs:List Bool,d5 K H (bs.map V.bl) (bs.map PyData.bool)
 | []=>.nil
 | b::bs=>.cons (.bl b) (Br bs)
theorem KO:∀ bs:List Bool,PyData.canLayAll0 (bs.map PyData.bool)=true
 | []=>rfl
 | b::bs=>by
  have:=KO bs
  rw [map_cons]
  unfold PyData.canLayAll0
  rw [this]
  cases b <;> rfl
theorem nS{K:Frag}{H:Hp}{Q:VK}{bs:List Bool}{p:Addr}(j:Nat)(hs:aP K H p (bs.map V.bl))(h:bs[j]?=some true)(hb:∀ m,m<j->bs[m]?=some false)(hj:j<=1000)(k:Q (.int (j:Int)) H):sM K (.ref p) [.bl true] H Q :=
 Kl j hs (Br bs) (.bl true) (KO bs) rfl aa8 hj ⟨.bool true,by rw [aaQ,h];rfl,rfl⟩ (fun m z hm hz=>by rw [aaQ,hb m hm] at hz;cases hz;rfl) k
theorem uu:∀ ws:List Str,(∀ w∈ws,w.length<=200)->(Str.join bk ws).length<=201*ws.length
 | [],_=>by decide
 | [x],h=>by have:=h x (.head _);show x.length<=_;simp;lia
 | x::y::r,h=>by
  have h1:=h x (.head _)
  have h2:=uu (y::r) fun w hw=>h w (.tail _ hw)
  show (x++bk++Str.join bk (y::r)).length<=_
  rw [PySem.strLen_append,PySem.strLen_append,show bk.length=1 from rfl]
  simp only [length_cons] at *
  lia
def Wc:List (Key×V):=[(.inr "comma",.int 1),(.inr "key",.int 5),(.inr "ring",.int 6),(.inr "nothing",.int 1),(.inr "sound",.int 1),(.inr "same",.int 0),(.inr "forget",.int 0),(.inr "tune",.int 2),(.inr "move",.int 2),(.inr "show",.int 1),(.inr "alike",.int 2),(.inr "chord",.int 3),(.inr "steps",.int 2)]
theorem NK{n:Nat}(h:(w0,n)∈px):tY Wc (.inr w0)=some (.int n)/\(LL (.str w0) [.str "tune",.str "chord"]=false/\(LL (.str w0) [.str "key",.str "ring"]=true->w0 = "key"\/w0 = "ring"))/\w0.length<=7/\32∉w0.cps.toList/\n<=6:=by
 unfold px at h
 simp only [aaC,not_mem_nil,or_false,Prod.mk.injEq] at h
 rcases h with ⟨rfl,rfl⟩|⟨rfl,rfl⟩|⟨rfl,rfl⟩|⟨rfl,rfl⟩|⟨rfl,rfl⟩|⟨rfl,rfl⟩ <;> exact⟨rfl,aa8,aa8,aa8,aa8⟩
def Ts(a b:Int)(r:List Int):Prop:=(-a<=r.getD 0 0/\r.getD 0 0<=a)/\∀ j,1<=j->-b<=r.getD j 0/\r.getD j 0<=b
theorem Ts.add{a b x:Int}(h:Ts a b r)(hn:1<=r.length)(hb:0<=b)(hx:-b<=x/\x<=b):Ts a b (r++[x]):=by
 refine⟨?_,fun j hj=>?_⟩
 ·rw [List.getD,aaJ aaa];exact h.1
 ·by_cases h1:j<r.length
  ·rw [List.getD,aaJ h1];exact h.2 j hj
  ·rw [List.getD,aaK aaa]
   by_cases h2:j - r.length=0
   ·rw [h2];exact hx
   ·rw [getElem?_eq_none (by simp;lia)]
    show -b<=0/\0<=b
    lia
theorem Ts.rb{a b:Int}(h:Ts a b r)(l:r.length=5):RB a b r:=by
 match r,l with
 | [a0,a1,a2,a3,a4],_=>exact⟨a0,a1,a2,a3,a4,rfl,h.1,h.2 1 aa8,h.2 2 aa8,h.2 3 aa8,h.2 4 aa8⟩
theorem Dy.add{x:Int}(h:Dy r)(hx:-9999<=x/\x<=9999):Dy (r++[x]):=fun y hy=>(aax.mp hy).elim (h y) fun z=>by rw [aaw.mp z];exact hx
theorem Bs{x:Int}:r.map V.int++[V.int x]=(r++[x]).map V.int:=by rw [aaR];rfl
theorem R5{m:Nat}{o:Int}(h:kI.AU y m=some o):32∉y.cps.toList:=by
 have c:∀ z:Str,bz.cnt z m=true->32∉z.cps.toList:=fun z hz hm=>by
  unfold bz.cnt at hz
  rw [Bool.and_eq_true] at hz
  exact absurd (all_eq_true.mp hz.2 32 hm) aa8
 unfold kI.AU at h
 split at h
 ·rename_i e
  rw [e]
  decide
 ·split at h
  ·rename_i h0 h1
   split at h
   ·rename_i h2
    have h3:=c _ h2
    rw [toList_toArray] at h3
    intro hm
    have e:y.cps.toList[0]?=some 45:=by rw [<- h1,Array.getElem?_toList]
    cases hl:y.cps.toList with
    | nil=>rw [hl] at e;cases e
    | cons x l =>
     rw [hl] at e hm h3
     cases e
     exact (aaC.mp hm).elim (fun z=>absurd z aa8) h3
   ·cases h
  ·split at h
   ·rename_i h2
    exact c _ h2
   ·cases h
theorem Wd{x:Int}(h:-9999<=x/\x<=9999):32∉(nw x).cps.toList/\(nw x).length<=200/\(kI.AU (nw x) 4).isSome=true:=by
 have h1:=kI.yH h.1 h.2
 exact⟨R5 h1.1,aag h1.2 aa8,by rw [h1.1];rfl⟩
theorem KQ{n:Nat}(h:0<n)(h60:n<10 ^ 60):32∉(bz.lJ n).cps.toList:=fun hm=>by
 have hz:=(bz.nH h (m:=60) aa8 h60).1
 unfold bz.cnt at hz
 rw [Bool.and_eq_true] at hz
 exact absurd (all_eq_true.mp hz.2 32 hm) aa8
theorem DC(h:RB 18 4 r):32∉(Ad r).cps.toList:=by
 have h':=h
 obtain ⟨a0,a1,a2,a3,a4,rfl,_⟩:=h
 have t:=Fd h'
 have tp:=jA a0 a1 a2 a3 a4
 have bp:=jB a0 a1 a2 a3 a4
 show 32∉(bz.lJ _++bz.aO++bz.lJ _).cps.toList
 rw [kI.app_list,kI.app_list]
 intro hm
 rcases aax.mp hm with hm|hm
 ·rcases aax.mp hm with hm|hm
  ·exact KQ aaa (qw t.1) hm
  ·exact absurd hm aa8
 ·exact KQ aaa (qw t.2) hm
theorem uv(h:(w0,1)∈px)(n:¬ (w0 = "key"\/w0 = "ring"))(hz:32∉z.cps.toList)(hl:z.length<=200):Ln w0 [z] :=
 ⟨h,fun w hw=>by rw [aaw.mp hw];exact⟨hz,hl⟩,fun z=>absurd z n⟩
theorem Fg(h:(w0,w.length)∈px)(hf:Dy w):Ln w0 (w.map nw):=by
 have hw:∀ y∈w.map nw,32∉y.cps.toList/\y.length<=200/\(kI.AU y 4).isSome=true:=fun y hy=>by
  obtain ⟨x,hx,rfl⟩:=aaD.mp hy
  exact Wd (hf x hx)
 exact⟨by rw [aaz];exact h,fun y hy=>⟨(hw y hy).1,(hw y hy).2.1⟩,fun _ y hy=>(hw y hy).2.2⟩
section
variable {K:Frag}{H H2 H0:Hp}{d lc lk:Addr}{r1 r2:List (List Int)}{q1 q2:List (List Int×Int)}
theorem St.dk(S:St K d lc lk H0 r1 r2 q1 q2 H):∃ c k,Dk K d c k H:=let ⟨⟨c,k,_,_,_,_,h,_⟩,_,_,_⟩:=S;⟨c,k,h⟩
theorem Dk.tp(h:Dk K d c k H)(s:Ch d H H2):Tp K H H2:=let ⟨_,_,_,_,_,e⟩:=h;s.tp e (fun _ z=>nomatch z) (fun _ _ z=>nomatch z)
theorem Dk.ne(h:Dk K d c k H)(e:H l=some (.lst xs)):l≠d:=fun z=>by
 obtain ⟨_,_,_,_,_,e'⟩:=h
 rw [z,e'] at e
 cases e
theorem ZT(hD:Dk K d c k H)(w1:az K H xs r1)(m2:H k=some (.lst ys))(w2:aY K H ys q1)(m3:H lc=some (.lst us))(w3:az K H us r2)(m4:H lk=some (.lst vs))(w4:aY K H vs q2)(n3:k≠lc)(n4:k≠lk)(n5:lc≠lk)(tb:bR K H)(s0:lO K H0 H)(n0:H0 d=none/\H0 lc=none/\H0 lk=none)(nc:H c'=none)(ch:Ch d H H2)(dk:Dk K d c' k H2)(mc:H2 c'=some (.lst (xs++[.ref p])))(mp:aC K H2 p (r.map V.int)):St K d lc lk H0 (r1++[r]) r2 q1 q2 H2:=by
 have t:=hD.tp ch
 obtain ⟨C,dx,_,_,_,e⟩:=id hD
 exact⟨⟨c',k,_,ys,us,vs,dk,⟨mc,ZK mp (KJ t w1)⟩,⟨ch _ _ (hD.ne m2) m2,KL t w2⟩,⟨ch _ _ (hD.ne m3) m3,KJ t w3⟩,⟨ch _ _ (hD.ne m4) m4,KL t w4⟩,fun z=>by (rw [z,m3] at nc;cases nc),fun z=>by (rw [z,m4] at nc;cases nc),n3,n4,n5⟩,um tb ch e (fun _ z=>nomatch z) (fun _ _ z=>nomatch z),uo s0 ch n0.1,n0⟩
theorem ZU{m:Int}(hD:Dk K d c k H)(m1:H c=some (.lst xs))(w1:az K H xs r1)(w2:aY K H ys q1)(m3:H lc=some (.lst us))(w3:az K H us r2)(m4:H lk=some (.lst vs))(w4:aY K H vs q2)(n3:c≠lc)(n4:c≠lk)(n5:lc≠lk)(tb:bR K H)(s0:lO K H0 H)(n0:H0 d=none/\H0 lc=none/\H0 lk=none)(nc:H k'=none)(ch:Ch d H H2)(dk:Dk K d c k' H2)(mc:H2 k'=some (.lst (ys++[.ref p])))(mp:aC K H2 p [.ref q,.int m])(mq:aC K H2 q (w.map V.int)):St K d lc lk H0 r1 r2 (q1++[(w,m)]) q2 H2:=by
 have t:=hD.tp ch
 obtain ⟨C,dx,_,_,_,e⟩:=id hD
 exact⟨⟨c,k',xs,_,us,vs,dk,⟨ch _ _ (hD.ne m1) m1,KJ t w1⟩,⟨mc,XB mp mq (KL t w2)⟩,⟨ch _ _ (hD.ne m3) m3,KJ t w3⟩,⟨ch _ _ (hD.ne m4) m4,KL t w4⟩,n3,n4,fun z=>by (rw [z,m3] at nc;cases nc),fun z=>by (rw [z,m4] at nc;cases nc),n5⟩,um tb ch e (fun _ z=>nomatch z) (fun _ _ z=>nomatch z),uo s0 ch n0.1,n0⟩
end
theorem R6:(((List.range qs.length).map fun j=>decide (val (qs.getD j ([],0)).1 (qs.getD j ([],0)).2 r=0)).all id=true)↔¬ Hr qs r:=by
 rw [all_eq_true]
 constructor
 ·rintro h ⟨q,hq,hv⟩
  obtain ⟨i,hi,rfl⟩:=mem_iff_getElem.mp hq
  have:=h _ (aaD.mpr ⟨i,aaM.mpr hi,rfl⟩)
  rw [List.getD,aat hi] at this
  exact hv (aak this)
 ·intro h b hb
  obtain ⟨i,hi,rfl⟩:=aaD.mp hb
  have hi:=aaM.mp hi
  rw [List.getD,aat hi]
  exact aan (Classical.byContradiction fun z=>h ⟨_,aa5 hi,z⟩)
theorem qz(h:H p=some (.tup [.str a,.str b])):dP K H (.ref p) (.tuple [.str a,.str b]):=.tup (aC.of h) (.cons (.str a) (.cons (.str b) .nil))
theorem NL(a b:Str):PyData.eqv (.tuple [.str a,.str b]) (.tuple [.str a,.str b])=true:=by simp [PyData.eqv,PyData.eqvAll]
theorem GK(a b c:Str):a++b++c=a++(b++c):=kI.yG (by simp only [kI.app_list,List.append_assoc])
theorem NM {w:List Int} {m:Int} {ln:Str} (l5:w.length=5) (h:(m=0/\ln = "key")\/ln = "ring "++nw m):(m=0/\ln ++ " "++Str.join " " (w.map nw)=Tr "key" (w.map nw))\/ln ++ " "++Str.join " " (w.map nw)=Tr "ring" ((m::w).map nw):=by
 rw [show Str.ofString " "=bk by decide]
 match w,l5 with
 | x::w,_ =>
  rcases h with ⟨h0,rfl⟩|rfl
  ·exact .inl ⟨h0,rfl⟩
  ·refine .inr ?_
   rw [show Str.ofString "ring "=Str.ofString "ring"++bk by decide]
   show Str.ofString "ring"++bk++nw m++bk++Str.join bk ((x::w).map nw)=Str.ofString "ring"++bk++(nw m++bk++Str.join bk ((x::w).map nw))
   simp only [GK]
theorem NN{n:Int}(ha:RB 9 2 a)(hb:RB 9 2 b)(hn:n=-1\/n=0\/n=1):RB 18 4 (ei a n b):=by
 obtain ⟨a0,a1,a2,a3,a4,rfl,_,_,_,_,_⟩:=ha
 obtain ⟨b0,b1,b2,b3,b4,rfl,_,_,_,_,_⟩:=hb
 refine⟨a0+n*b0,a1+n*b1,a2+n*b2,a3+n*b3,a4+n*b4,rfl,?_⟩
 rcases hn with rfl|rfl|rfl <;> lia
theorem We{β:Type}{qs:List (List Int×Int)}{n:Nat}(g:List Int×Int->β)(h:n=qs.length):((List.range n).map fun j=>g (qs.getD j ([],0)))=qs.map g:=by
 subst h
 refine ext_getElem (by simp) fun i h1 h2=>?_
 simp at h1
 rw [getElem_map,getElem_map,getElem_range,List.getD,aat h1]
 rfl
theorem KR{qs:List (List Int×Int)}{rs:List (List Int)}{i j:Nat}(h1:Hr qs (rs.getD i []))(n1:∀ k,k<i->¬ Hr qs (rs.getD k []))(h2:Hr qs (rs.getD j []))(n2:∀ k,k<j->¬ Hr qs (rs.getD k [])):i=j:=by
 rcases lt_trichotomy i j with h|h|h
 ·exact absurd h1 (n2 i h)
 ·exact h
 ·exact absurd h2 (n1 j h)
theorem mem_getD{rs:List (List Int)}{i:Nat}(h:i<rs.length):rs.getD i []∈rs:=by rw [List.getD,aat h];exact aa5 _
theorem Fh{x:Int}(h:x.natAbs<2 ^ 20):eT x<=20:=by rw [cB];exact fH h
theorem gB(h:PyData.strOk a=true/\PyData.strOk b=true):SeqAt.shaped (.tuple [.str a,.str b])=true:=by
 unfold SeqAt.shaped
 simp [PyData.canLay0,PyData.canLayAll0,PyData.depth,PyData.depthAll,h.1,h.2]
section
variable {K:Frag}{H H0:Hp}{d lc lk:Addr}{r1 r2:List (List Int)}{q1 q2:List (List Int×Int)}
theorem Wf(tb:bR K H)(h1:H d=some (.ins C dx fs))(h2:H lc=some (.lst us))(h3:H lk=some (.lst vs)):∃ H1:Hp,bR K H1/\lO K H1 H/\(H1 d=none/\H1 lc=none/\H1 lk=none)/\∀ b o,b≠d->b≠lc->b≠lk->H b=some o->H1 b=some o:=by
 have key:∀ b o,b≠d->b≠lc->b≠lk->H b=some o->(fun b=>if b=d\/b=lc\/b=lk then none else H b:Hp) b=some o:=fun b o n1 n2 n3 e=>by
  show (if b=d\/b=lc\/b=lk then none else H b)=_
  rw [if_neg (by rintro (z|z|z) <;> contradiction)]
  exact e
 refine⟨fun b=>if b=d\/b=lc\/b=lk then none else H b,?_,fun b o _ e=>?_,⟨if_pos (.inl rfl),if_pos (.inr (.inl rfl)),if_pos (.inr (.inr rfl))⟩,key⟩
 ·obtain ⟨ps,e1,e2,e3⟩:=tb
  refine⟨ps,key _ _ (fun z=>?_) (fun z=>?_) (fun z=>?_) e1,e2,e3.imp id fun ⟨c,hc,hz⟩=>⟨c,hc,key _ _ (fun z=>?_) (fun z=>?_) (fun z=>?_) hz⟩⟩
  ·rw [z,h1] at e1;cases e1
  ·rw [z,h2] at e1;cases e1
  ·rw [z,h3] at e1;cases e1
  ·rw [z,h1] at hz;cases hz
  ·rw [z,h2] at hz;cases hz
  ·rw [z,h3] at hz;cases hz
 ·have e:(if b=d\/b=lc\/b=lk then none else H b)=some o:=e
  split at e
  ·cases e
  ·exact e
theorem St.base(S:St K d lc lk H0 r1 r2 q1 q2 H):∃ H1:Hp,St K d lc lk H1 r1 r2 q1 q2 H/\bR K H1/\lO K H0 H1/\∀ b o,b≠d->b≠lc->b≠lk->H b=some o->H1 b=some o:=by
 obtain ⟨⟨c,k,xs,ys,us,vs,hD,m1,m2,m3,m4,n⟩,tb,s0,n0⟩:=S
 obtain ⟨C,dx,t1,t2,hC,e⟩:=id hD
 obtain ⟨H1,a1,a2,a3,a4⟩:=Wf tb e m3.1 m4.1
 exact⟨H1,⟨⟨c,k,xs,ys,us,vs,hD,m1,m2,m3,m4,n⟩,tb,a2,a3⟩,a1,fun b o hb e=>a4 b o (fun z=>by rw [z,n0.1] at e;cases e) (fun z=>by rw [z,n0.2.1] at e;cases e) (fun z=>by rw [z,n0.2.2] at e;cases e) (s0 b o hb e),a4⟩
theorem St.nt(S:St K d lc lk H0 r1 r2 q1 q2 H)(h:H t=some (.tup xs)):t≠d/\t≠lc/\t≠lk:=by
 obtain ⟨⟨c,k,_,_,us,vs,⟨C,dx,t1,t2,hC,e⟩,m1,m2,m3,m4,n⟩,_,_,_⟩:=S
 exact⟨fun z=>by (rw [z,e] at h;cases h),fun z=>by (rw [z,m3.1] at h;cases h),fun z=>by (rw [z,m4.1] at h;cases h)⟩
end
structure Adr where
 xX:Addr
 uw:Addr
 ux:Addr
 cR:Addr
 dq:Addr
 dr:Addr
 cp:Addr
 du:Addr
 uy:Addr
 pB:Addr
 uz:Addr
 uA:Addr
 pC:Addr
 pD:Addr
 pE:Addr
 uB:Addr
 uC:Addr
 kT:Addr
 iZ:Addr
 nT:Addr
 pF:Addr
 qA:Addr
 qB:Addr
 qC:Addr
 qD:Addr
 qE:Addr
 qF:Addr
 Bt:Addr
 Bu:Addr
 Bv:Addr
 Bw:Addr
 zg:Addr
 zh:Addr
 zi:Addr
 jO:Addr
 fY:Addr
 bg:Addr
 jP:Addr
 jQ:Addr
 cf:Tok
 eQ:Tok
 gC:Tok
 sN:Tok
 cY:Tok
 lP:Addr
structure Txt(P:Program)(w:World)(K:Frag)(mg:Str->Option Value)(base:Heap)(G:Adr):Prop where
 zk:mg "ValueError"=none
 KS:mg "abs"=none
 uD:mg "all"=none
 Wg:mg "any"=none
 R7:mg "bool"=none
 gD:mg "enumerate"=none
 qG:mg "int"=none
 aQ:mg "isinstance"=none
 cL:mg "len"=none
 DD:mg "list"=none
 Wh:mg "max"=none
 fo:mg "range"=none
 KU:mg "sorted"=none
 jm:mg "str"=none
 Pc:mg "sum"=none
 cC:mg "tuple"=none
 xY:mg "zip"=none
 Fi:mg "ONE"=some (.ref G.xX)
 jR:qo K G.xX [.int 0,.int 0,.int 0,.int 0,.int 0]
 KW:mg "PRIMES"=some (.ref G.uw)
 jS:qo K G.uw [.int 2,.int 3,.int 5,.int 7,.int 11]
 KY:mg "BOUNDS"=some (.ref G.ux)
 Bx:qo K G.ux [.int 700,.int 60,.int 60,.int 60,.int 60]
 By:mg "COUNTS"=some (.ref G.nT)
 GL:mg "ANSWERS"=some (.ref G.pF)
 Bz:mg "WITH_TEXT"=some (.ref G.jO)
 uE:mg "WITH_NUMBERS"=some (.ref G.fY)
 BA:o6 P w K G.nT [(.inr "comma",.int 1),(.inr "key",.int 5),(.inr "ring",.int 6),(.inr "nothing",.int 1),(.inr "sound",.int 1),(.inr "same",.int 0),(.inr "forget",.int 0),(.inr "tune",.int 2),(.inr "move",.int 2),(.inr "show",.int 1),(.inr "alike",.int 2),(.inr "chord",.int 3),(.inr "steps",.int 2)]
 GN:o6 P w K G.pF [(.inr "comma",.ref G.qA),(.inr "key",.ref G.qB),(.inr "ring",.ref G.qC),(.inr "nothing",.ref G.qD),(.inr "sound",.ref G.qE),(.inr "same",.ref G.qF),(.inr "forget",.ref G.Bt),(.inr "tune",.ref G.Bu),(.inr "move",.ref G.Bv),(.inr "show",.ref G.Bw),(.inr "alike",.ref G.zg),(.inr "chord",.ref G.zh),(.inr "steps",.ref G.zi)]
 BB:mg "comma_answer"=some (.ref G.qA)
 BC:mg "key_answer"=some (.ref G.qB)
 BD:mg "ring_answer"=some (.ref G.qC)
 BE:mg "nothing_answer"=some (.ref G.qD)
 BF:mg "sound_answer"=some (.ref G.qE)
 BG:mg "same_answer"=some (.ref G.qF)
 qH:qo K G.jO [.str "tune",.str "chord"]
 jT:qo K G.fY [.str "key",.str "ring"]
 jU:mg "MOST_FIGURES_spans"=some (.int 60 G.cf)
 wB:mg "MOST_COMMAS"=some (.int 6 G.eQ)
 BH:mg "MOST_KEYS"=some (.int 6 G.gC)
 cM:mg "WIDTH"=some (.int 5 G.sN)
 pG:mg "NUMBER_FIGURES"=some (.int 4 G.cY)
 BI:mg "YardError"=some (.ref G.cR)
 Pe:PySem.W.nsIn K mainGlobals "YardError"=some (some (.ref G.cR))
 BJ:A2 K G.cR
 uF:mg "TooFar"=some (.ref G.dq)
 fZ:NA K "TooFar" G.dq
 jV:mg "NoSpan"=some (.ref G.dr)
 cH:NA K "NoSpan" G.dr
 mJ:mg "NoCommas"=some (.ref G.cp)
 dH:NA K "NoCommas" G.cp
 nU:mg "NoKeys"=some (.ref G.du)
 dw:NA K "NoKeys" G.du
 KZ:mg "NoName"=some (.ref G.uy)
 GO:mg "NoBoard"=some (.ref G.pB)
 K0:mg "NoTune"=some (.ref G.uz)
 K1:mg "BadBar"=some (.ref G.uA)
 GP:mg "BadNote"=some (.ref G.pC)
 GQ:mg "NoStack"=some (.ref G.pD)
 GR:mg "NoChord"=some (.ref G.pE)
 K2:mg "NoLine"=some (.ref G.uB)
 K3:mg "NoNote"=some (.ref G.uC)
 GS:mg "NoScale"=some (.ref G.kT)
 DE:mg "NoLength"=some (.ref G.iZ)
 R8:mg "Desk"=some (.ref G.bg)
 jW:PySem.W.nsIn K mainGlobals "Desk"=some (some (.ref G.bg))
 bT:Er K G.bg
 R9:Mk K G.bg G.jP
 BK:Meth K G.bg "told" G.jQ
 aM:dR K G.bg "commas"
 aE:dR K G.bg "own_keys"
 aS:dR K G.bg "tunes"
 aN:dR K G.bg "chords"
 st_:Dp K [G.dq,G.dr,G.cp,G.du] [G.dq,G.dr,G.cp,G.du,G.uy,G.pB,G.uz,G.uA,G.pC,G.pD,G.pE,G.uB,G.uC,G.kT,G.iZ]=true
 bV:subIn K (.ref G.dq) (.ref G.cR)=some true
 bW:subIn K (.ref G.dr) (.ref G.cR)=some true
 bG:subIn K (.ref G.cp) (.ref G.cR)=some true
 bX:subIn K (.ref G.du) (.ref G.cR)=some true
 Y:base.NoSeer/\P.given.tree=none
 K4:CodeHd base G.lP (yX K "parted")/\base.BuiltinsAt mg (yX K "parted")
 wC:Def K mg "is_counting" gS ["text","most"]
 BL:Def K mg "is_signed" jI ["text","most"]
 zl:Def K mg "parts_read" iS ["text","most"]
 zm:Def K mg "divisor_of" iT ["numbers"]
 DF:Def K mg "is_whole" mi ["thing"]
 K5:Def K mg "is_row" ua ["thing"]
 GU:Def K mg "is_tone" o7 ["thing"]
 GV:Def K mg "tone_of" o8 ["row"]
 Sa:Def K mg "over" Dr ["one","other"]
 NO:Def K mg "power" y6 ["row","n"]
 wD:Def K mg "counted_out" gT ["number","prime"]
 DG:Def K mg "split_up" mj ["number"]
 K6:Def K mg "row_of" ub ["top","bottom"]
 pH:Def K mg "checked_commas" eC ["commas"]
 Sb:Def K mg "unit" Dt ["place","size"]
 zo:Def K mg "lead_place" iU ["row"]
 GW:Def K mg "lowered" o9 ["vector","step","place"]
 uG:Ni K mg "parted" fQ ["vectors","place"] G.lP
 GX:Def K mg "stepped" pe ["vectors","size"]
 uH:Def K mg "marked_table" fR ["commas"]
 NP:Def K mg "table" y8 ["commas"]
 GY:Def K mg "left_by" ph ["steps","vector"]
 nV:Def K mg "rest_and_powers" d6 ["commas","row"]
 Sd:Def K mg "rest" Du ["commas","row"]
 NQ:Def K mg "heard" y9 ["weights","row"]
 NR:Def K mg "value" zc ["key","row"]
 DH:Def K mg "by_place" my ["steps"]
 mK:Def K mg "product_of_leads" dG ["steps"]
 wF:Def K mg "weights_for" gU ["rows","place","whole"]
 K7:Def K mg "key_of" uc ["weights","ring"]
 rQ:Def K mg "keys_by_place" fe ["steps"]
 NS:Def K mg "paper" zd ["commas","row"]
 uI:Def K mg "checked_keys" fS ["keys"]
 K8:Def K mg "values" ud ["keys","row"]
 zp:Def K mg "lost_among" iV ["rows","key"]
 Se:Def K mg "lost" Dv ["keys"]
 zq:Def K mg "line_words" iW ["line"]
 BM:Def K mg "span_read" jJ ["text"]
 wG:Def K mg "first_heard" gW ["commas","keys"]
 Sf:Def K mg "held" Dw ["commas","keys"]
 BN:Def K mg "yes_or_no" jK ["truth"]
 uJ:Def K mg "comma_answer" fT ["desk","words"]
 DI:Def K mg "key_kept" mB ["desk","row","ring"]
 zr:Def K mg "key_answer" iX ["desk","words"]
 wH:Def K mg "ring_answer" gX ["desk","words"]
 pI:Def K mg "nothing_answer" eD ["desk","words"]
 uK:Def K mg "sound_answer" fU ["desk","words"]
 wI:Def K mg "same_answer" gY ["desk","words"]
 DJ:Def K mg "_law_cell" mC ["_law_script","_law_k"]
 DK:Def K mg "_law_plus" mD ["_law_one","_law_q","_law_other"]
 BO:Def K mg "_law_value" jL ["_law_key","_law_row"]
 GZ:Def K mg "_law_sum" pj ["_law_powers","_law_rows"]
 uL:Def K mg "_law_fraction" fV ["_law_row"]
 BQ:Def K mg "_law_class" jM ["_law_e"]
 DL:Def K mg "_law_told" mE ["_law_desk","_law_line"]
 DM:Def K mg "_law_span" mG ["_law_cell_here"]
 wJ:Def K mg "_law_numbers" gZ ["_law_cell_here"]
 nW:Def K mg "_law_paper_right" d7 ["_law_commas","_law_span_here","_law_found"]
 uM:Def K mg "_law_same_due" fW ["_law_commas","_law_keys"]
 DN:Def K mg "_law_kept" mH ["_law_desk","_law_cell_here","_law_commas","_law_keys"]
 BR:Def K mg "_law_asked" jN ["_law_desk","_law_cell_here","_law_commas","_law_keys"]
 jX:Bf K G.jP "__init__" "Desk.__init__" cO ["self"]
 jY:Bf K G.jQ "told" "Desk.told" cP ["self","line"]
inductive cx(K:Frag)(H:Hp)(Q:VK)(E:XK):List V->Prop where
 | c {z:Str} {m:Nat} (hz:z.length<=1000) (k:∀ H',aj H H'->Q (.bl (bz.cnt z m)) H'):cx K H Q E [.str z,.int m]
abbrev uN(K:Frag):Sp:=fun vs H Q E=>cx K H Q E vs
inductive i0(K:Frag)(H:Hp)(Q:VK)(E:XK):List V->Prop where
 | c {y:Str} {m:Nat} (hy:y.length<=1000) (k:∀ H',aj H H'->Q (.bl (kI.AU y m).isSome) H'):i0 K H Q E [.str y,.int m]
abbrev zt(K:Frag):Sp:=fun vs H Q E=>i0 K H Q E vs
inductive hJ(K:Frag)(H:Hp)(Q:VK)(E:XK):List V->Prop where
 | c {z:Str} {m:Nat} (h:z.length<=1000/\m<=600) (k:(∀ t b:Nat,bz.CU z m=some (t,b)->∀ p H',aj H H'->H' p=some (.tup [.int t,.int b])->Q (.ref p) H')/\(bz.CU z m=none->∀ H',aj H H'->Q .cJ H')):hJ K H Q E [.str z,.int m]
abbrev wK(K:Frag):Sp:=fun vs H Q E=>hJ K H Q E vs
inductive hZ(K:Frag)(H:Hp)(Q:VK)(E:XK):List V->Prop where
 | c {a:Addr} {zs:List Int} (ha:aC K H a (zs.map V.int)) (k:Q (.int (lE zs:Nat)) H):hZ K H Q E [.ref a]
abbrev wL(K:Frag):Sp:=fun vs H Q E=>hZ K H Q E vs
def qI(K:Frag):Sp:=fun vs H Q _=>∃ v,vs=[v]/\Kn K H v/\Q (.bl (wh v)) H
def xZ(K:Frag):Sp:=fun vs H Q _=>∃ v,vs=[v]/\((∃ (a:Addr) (xs:List V),v=.ref a/\aC K H a xs/\xs.length<=1000/\(∀ x∈xs,Kn K H x)/\∀ H',aj H H'->Q (.bl (decide (xs.length=5) && xs.all wh)) H')\/(NT K H v/\Q (.bl false) H))
def uO(K:Frag):Sp:=fun vs H Q _=>∃ v,vs=[v]/\((∃ (a:Addr) (x0 x1 x2 x3 x4:Int),v=.ref a/\aC K H a [.int x0,.int x1,.int x2,.int x3,.int x4]/\∀ H',aj H H'->Q (.bl (fits x0 x1 x2 x3 x4)) H')\/(Odd K H v/\∀ H',aj H H'->Q (.bl false) H'))
inductive mL(K:Frag)(H:Hp)(Q:VK)(E:XK):List V->Prop where
 | c {a:Addr} {x0 x1 x2 x3 x4:Int} (ha:aC K H a [.int x0,.int x1,.int x2,.int x3,.int x4]) (ke:(fits x0 x1 x2 x3 x4=false->∀ C H',PySem.W.nsIn K mainGlobals "TooFar"=some (some (.ref C))->aj H H'->E (.ref C) none H')) (kq:(fits x0 x1 x2 x3 x4=true->∀ H',aj H H'->Q (.ref a) H')):mL K H Q E [.ref a]
abbrev DO(K:Frag):Sp:=fun vs H Q E=>mL K H Q E vs
def Fj(K:Frag):Sp:=fun vs H Q _=>∃ (a b:Addr) (r q:List Int),vs=[.ref a,.ref b]/\aC K H a (r.map V.int)/\aC K H b (q.map V.int)/\r.length=q.length/\r.length<=1000/\∀ p H',aj H H'->H' p=some (.tup ((sub r q).map V.int))->Q (.ref p) H'
def BS(K:Frag):Sp:=fun vs H Q _=>∃ (a:Addr) (r:List Int) (n:Int),vs=[.ref a,.int n]/\aC K H a (r.map V.int)/\r.length<=1000/\(∀ x∈r,qv x n)/\∀ p H',aj H H'->H' p=some (.tup ((bH r n).map V.int))->Q (.ref p) H'
inductive f6(K:Frag)(H:Hp)(Q:VK)(E:XK):List V->Prop where
 | c {n p:Int} {c:Nat} {m:Int} (hp:P5 p) (hn:n=p ^ c*m) (hm:m % p≠0) (k:∀ q H',aj H H'->H' q=some (.tup [.int c,.int m])->Q (.ref q) H'):f6 K H Q E [.int n,.int p]
abbrev uP(K:Frag):Sp:=fun vs H Q E=>f6 K H Q E vs
inductive gE(K:Frag)(H:Hp)(Q:VK)(E:XK):List V->Prop where
 | c {n:Int} {c0 c1 c2 c3 c4:Nat} {m:Int} (hn:n=dX c0 c1 c2 c3 c4*m) (hm:Oy m) (k:∀ q p H',aj H H'->H' q=some (.tup [.int c0,.int c1,.int c2,.int c3,.int c4])->H' p=some (.tup [.ref q,.int m])->Q (.ref p) H'):gE K H Q E [.int n]
abbrev BU(K:Frag):Sp:=fun vs H Q E=>gE K H Q E vs
inductive pJ(K:Frag)(H:Hp)(Q:VK)(E:XK):List V->Prop where
 | c {t b:Int} {c0 c1 c2 c3 c4 d0 d1 d2 d3 d4:Nat} {m m':Int} (hc:((t<1\/b<1)\/(t=dX c0 c1 c2 c3 c4*m/\b=dX d0 d1 d2 d3 d4*m'/\Oy m/\Oy m'))) (ke:(∀ C H',PySem.W.nsIn K mainGlobals "NoSpan"=some (some (.ref C))->aj H H'->(t<1\/b<1\/m≠m')->E (.ref C) none H')) (kq:(∀ p H',aj H H'->1<=t->1<=b->m=m'->H' p=some (.tup [.int (c0 - d0),.int (c1 - d1),.int (c2 - d2),.int (c3 - d3),.int (c4 - d4)])->Q (.ref p) H')):pJ K H Q E [.int t,.int b]
abbrev G1(K:Frag):Sp:=fun vs H Q E=>pJ K H Q E vs
def gF (K:Frag):Sp:=fun vs H Q E=>∃ (l:Addr) (ys:List V),vs=[.ref l]/\aP K H l ys/\(ys.length<=6->Q (.ref l) H)/\(6<ys.length->∀ C H',Nm K "NoCommas" C->aj H H'->E (.ref C) none H')
inductive nX(K:Frag)(H:Hp)(Q:VK)(E:XK):List V->Prop where
 | c {p n:Nat} (hn:n<=1000) (k:∀ a H',aj H H'->H' a=some (.tup ((bF p n).map V.int))->Q (.ref a) H'):nX K H Q E [.int p,.int n]
abbrev NU(K:Frag):Sp:=fun vs H Q E=>nX K H Q E vs
inductive cI(K:Frag)(H:Hp)(Q:VK)(E:XK):List V->Prop where
 | c {a:Addr} {r:List Int} {k:Nat} (ha:aC K H a (r.map V.int)) (hl:r.length<=1000) (hk:cG r k) (kk:∀ H',aj H H'->Q (.int k) H'):cI K H Q E [.ref a]
abbrev wM(K:Frag):Sp:=fun vs H Q E=>cI K H Q E vs
def uQ(K:Frag):Sp:=fun vs H Q _=>∃ (a b:Addr) (p n M k:Nat) (v s:List Int),vs=[.ref a,.ref b,.int p]/\aC K H a (v.map V.int)/\aC K H b (s.map V.int)/\v.length=n/\s.length=n/\n<=1000/\p<n/\s.getD p 0≠0/\bY M v/\bY M s/\M<2 ^ k/\k<=60000000/\∀ p' H',aj H H'->H' p'=some (.tup ((bC p s v).map V.int))->Q (.ref p') H'
inductive pK(K:Frag)(H:Hp)(Q:VK)(E:XK):List V->Prop where
 | c {l:Addr} {p n M A k:Nat} {xs:List V} {rs:List (List Int)} (h:aP K H l xs/\az K H xs rs/\rs.length<64/\Len n rs/\n<=1000/\p<n/\(∀ v∈rs,bY M v)/\(∀ v∈rs,at' p v<=A)/\0<A/\6*(M*(A*A))<2 ^ k/\k<=60000000/\bR K H) (kk:∀ t l1 l2 H' ys zs led os,lO K H H'->bR K H'->aC K H' t [.ref l1,.ref l2]->aP K H' l1 ys->az K H' ys led->aP K H' l2 zs->az K H' zs os->led.length<=1->(∀ v∈led,0<v.getD p 0)->(∀ v∈os,v.getD p 0=0)->(∀ v∈led++os,v.length=n)->(∀ v∈led++os,bY (6*(M*(A*A))) v)->Eqv n rs (led++os)->led.length+os.length<=rs.length->(∀ v∈led,at' p v<=A)->Q (.ref t) H'):pK K H Q E [.ref l,.int p]
abbrev G2(K:Frag):Sp:=fun vs H Q E=>pK K H Q E vs
inductive eE(K:Frag)(H:Hp)(Q:VK)(E:XK):List V->Prop where
 | c {l:Addr} {w n b:Nat} {xs:List V} {rs:List (List Int)} (h:aP K H l xs/\az K H xs rs/\rs.length<64/\Len n rs/\n<=1000/\w<=n/\(∀ v∈rs,bY (2 ^ b) v)/\(∀ i,i<w->ss b (i+1)<60000000)/\bR K H) (kk:∀ l' H' ys st lf,H l'=none->lO K H H'->bR K H'->H' l'=some (.lst ys)->az K H' ys st->SJ n w b rs w st lf->Q (.ref l') H'):eE K H Q E [.ref l,.int w]
abbrev DP(K:Frag):Sp:=fun vs H Q E=>eE K H Q E vs
inductive fg(K:Frag)(H:Hp)(Q:VK)(E:XK):List V->Prop where
 | c {l:Addr} {b:Nat} {xs:List V} {rs:List (List Int)} (h:aP K H l xs/\az K H xs rs/\rs.length<=6/\Len 5 rs/\(∀ v∈rs,bY (2 ^ b) v)/\b<=109/\bR K H) (kk:∀ l' H' ys st lf,H l'=none->lO K H H'->bR K H'->H' l'=some (.lst ys)->az K H' ys st->SJ (5+rs.length) 5 b (marked rs) 5 st lf->Q (.ref l') H'):fg K H Q E [.ref l]
abbrev rR(K:Frag):Sp:=fun vs H Q E=>fg K H Q E vs
inductive uR(K:Frag)(H:Hp)(Q:VK)(E:XK):List V->Prop where
 | c {l:Addr} {b:Nat} {xs:List V} {rs:List (List Int)} (h:aP K H l xs/\az K H xs rs/\rs.length<=6/\Len 5 rs/\(∀ v∈rs,bY (2 ^ b) v)/\b<=109/\bR K H) (kk:∀ l' H' ys st,H l'=none->lO K H H'->bR K H'->H' l'=some (.lst ys)->az K H' ys st->SF st->Eqv 5 rs st->Len 5 st->st.length<=5->(∀ v∈st,bY (2 ^ ss b 5) v)->(∀ v∈st,∀ k,cG v k->(v.getD k 0).natAbs<=2 ^ gs b (4 - k))->Q (.ref l') H'):uR K H Q E [.ref l]
abbrev K9(K:Frag):Sp:=fun vs H Q E=>uR K H Q E vs
inductive mM(K:Frag)(H:Hp)(Q:VK)(E:XK):List V->Prop where
 | c {l a:Addr} {n B C:Nat} {xs:List V} {st:List (List Int)} {u:List Int} (h:aP K H l xs/\az K H xs st/\aC K H a (u.map V.int)/\u.length=n/\5<=n/\n<=100/\Len n st/\st.length<=5/\SF (st.map (List.take 5))/\(∀ r∈st,bY (2 ^ B) r)/\bY (2 ^ C) u/\C+6*B<50000000) (kk:∀ p H' v,aj H H'->aC K H' p (v.map V.int)->LB n 5 st st.length u v->bY (2 ^ (C+(B+1)*5)) v->Q (.ref p) H'):mM K H Q E [.ref l,.ref a]
abbrev DQ(K:Frag):Sp:=fun vs H Q E=>mM K H Q E vs
inductive cD(K:Frag)(H:Hp)(Q:VK)(E:XK):List V->Prop where
 | c {l a:Addr} {b R:Nat} {xs:List V} {rs:List (List Int)} {row:List Int} (h:aP K H l xs/\az K H xs rs/\rs.length<=6/\Len 5 rs/\(∀ v∈rs,bY (2 ^ b) v)/\b<=109/\aC K H a (row.map V.int)/\row.length=5/\bY (2 ^ R) row/\R<=60000/\bR K H) (kk:∀ t ar pl H' ρ ps st,lO K H H'->bR K H'->aC K H' t [.ref ar,.ref pl]->aC K H' ar (ρ.map V.int)->H' pl=some (.lst (ps.map V.int))->H pl=none->ps.length=rs.length->(∀ x∈ps,x.natAbs<=2 ^ 400000)->(∀ i,i<5->row.getD i 0 - ρ.getD i 0=dj i rs ps)->SF st->Len 5 st->Eqv 5 rs st->ρ.length=5->Span 5 st (sub row ρ)->(∀ s∈st,∀ k,cG s k->0<=ρ.getD k 0/\ρ.getD k 0<s.getD k 0)->Q (.ref t) H'):cD K H Q E [.ref l,.ref a]
abbrev mO(K:Frag):Sp:=fun vs H Q E=>cD K H Q E vs
inductive zu(K:Frag)(H:Hp)(Q:VK)(E:XK):List V->Prop where
 | c {l a:Addr} {b:Nat} {xs:List V} {rs:List (List Int)} {row:List Int} (h:aP K H l xs/\az K H xs rs/\rs.length<=6/\Len 5 rs/\(∀ v∈rs,bY (2 ^ b) v)/\b<=109/\aC K H a (row.map V.int)/\row.length=5/\bY (2 ^ 1000) row/\bR K H) (kk:∀ ar H' ρ st,lO K H H'->bR K H'->aC K H' ar (ρ.map V.int)->SF st->Len 5 st->Eqv 5 rs st->ρ.length=5->Span 5 st (sub row ρ)->(∀ s∈st,∀ k,cG s k->0<=ρ.getD k 0/\ρ.getD k 0<s.getD k 0)->Q (.ref ar) H'):zu K H Q E [.ref l,.ref a]
abbrev NV(K:Frag):Sp:=fun vs H Q E=>zu K H Q E vs
def uS(K:Frag):Sp:=fun vs H Q _=>∃ (w r:Addr) (kk:Bool) (ws rs:List Int),vs=[.ref w,.ref r]/\Sq kk K H w (ws.map V.int)/\aC K H r (rs.map V.int)/\ws.length<=rs.length/\rs.length<=1000/\(∀ i,i<ws.length->c7 (rs.getD i 0) (ws.getD i 0))/\∀ H',aj H H'->Q (.int (dt rs ws)) H'
def BV(K:Frag):Sp:=fun vs H Q _=>∃ (kk w r:Addr) (m:Int) (ws rs:List Int),vs=[.ref kk,.ref r]/\aC K H kk [.ref w,.int m]/\aC K H w (ws.map V.int)/\aC K H r (rs.map V.int)/\rs.length=ws.length/\rs.length<=1000/\(∀ i,i<rs.length->c7 (rs.getD i 0) (ws.getD i 0))/\0<=m/\∀ H',aj H H'->Q (.int (val ws m rs)) H'
inductive jZ(K:Frag)(H:Hp)(Q:VK)(E:XK):List V->Prop where
 | c {l:Addr} {xs:List V} {st:List (List Int)} (h:aP K H l xs/\az K H xs st/\SF st/\Len 5 st/\st.length<=5) (k:∀ l' H' ys R,H l'=none->aj H H'->H' l'=some (.lst ys)->az K H' ys R->BP st R->Q (.ref l') H'):jZ K H Q E [.ref l]
abbrev BW(K:Frag):Sp:=fun vs H Q E=>jZ K H Q E vs
inductive c9(K:Frag)(H:Hp)(Q:VK)(E:XK):List V->Prop where
 | c {l:Addr} {xs:List V} {st R:List (List Int)} {W:Nat} (h:aP K H l xs/\az K H xs st/\SF st/\Len 5 st/\st.length<=5) (hb:BP st R) (hW:∀ h,h<=5->(Pd R h).natAbs<2 ^ W) (hL:∀ r∈st,∀ k,cG r k->(r.getD k 0).natAbs<2 ^ W) (hn:W<=100000) (k:∀ H',aj H H'->Q (.int (Pd R 0)) H'):c9 K H Q E [.ref l]
abbrev lF(K:Frag):Sp:=fun vs H Q E=>c9 K H Q E vs
inductive f7(K:Frag)(H:Hp)(Q:VK)(E:XK):List V->Prop where
 | c {l:Addr} {p B W:Nat} {xs:List V} {R:List (List Int)} (h:aP K H l xs/\az K H xs R/\QB R/\(∀ r∈R,bY (2 ^ B) r)/\(∀ (h:Nat) (r:List Int),R[h]?=some r->(r.getD h 0).natAbs<2 ^ 9000)/\(Pd R 0).natAbs<=2 ^ W/\B<=41000/\W<=100000) (k:∀ t H' ws,aj H H'->aC K H' t (ws.map V.int)->ws.length=5->WI R p (Pd R 0) ws->(∀ j,(ws.getD j 0).natAbs<=2 ^ (W+5*(B+4)))->Q (.ref t) H'):f7 K H Q E [.ref l,.int p,.int (Pd R 0)]
abbrev uT(K:Frag):Sp:=fun vs H Q E=>f7 K H Q E vs
inductive kU(K:Frag)(H:Hp)(Q:VK)(E:XK):List V->Prop where
 | c {a:Addr} {ws:List Int} {ring:Int} {C:Nat} (h:aC K H a (ws.map V.int)/\ws.length=5/\0<=ring/\(∃ z∈ring::ws,z≠0)/\(∀ j,(ws.getD j 0).natAbs<=2 ^ C)/\ring.natAbs<=2 ^ C) (k:∀ t ra m q H',aj H H'->aC K H' t [.ref ra,.int m]->aC K H' ra (q.map V.int)->Fa ws ring (q,m)->ue (C+1) q->Q (.ref t) H'):kU K H Q E [.ref a,.int ring]
abbrev G3(K:Frag):Sp:=fun vs H Q E=>kU K H Q E vs
inductive eF(K:Frag)(H:Hp)(Q:VK)(E:XK):List V->Prop where
 | c {l:Addr} {b:Nat} {xs:List V} {st:List (List Int)} (h:aP K H l xs/\az K H xs st/\SF st/\Len 5 st/\st.length<=5/\(∀ v∈st,bY (2 ^ ss b 5) v)/\(∀ v∈st,∀ k,cG v k->(v.getD k 0).natAbs<=2 ^ gs b (4 - k))/\b<=109) (k:∀ l' H' ys ks,H l'=none->aj H H'->H' l'=some (.lst ys)->aY K H' ys ks->ks.length<=5->Bp st ks->Q (.ref l') H'):eF K H Q E [.ref l]
abbrev pL(K:Frag):Sp:=fun vs H Q E=>eF K H Q E vs
inductive nY(K:Frag)(H:Hp)(Q:VK)(E:XK):List V->Prop where
 | c {l a:Addr} {b R:Nat} {xs:List V} {rs:List (List Int)} {row:List Int} (h:aP K H l xs/\az K H xs rs/\rs.length<=6/\Len 5 rs/\(∀ v∈rs,bY (2 ^ b) v)/\b<=109/\aC K H a (row.map V.int)/\row.length=5/\bY (2 ^ R) row/\R<=60000/\bR K H) (k1:∀ t pl H' ps,lO K H H'->bR K H'->aC K H' t [.str "made",.ref pl]->H' pl=some (.lst (ps.map V.int))->H pl=none->ps.length=rs.length->(∀ x∈ps,x.natAbs<=2 ^ 400000)->(∀ i,i<5->row.getD i 0=dj i rs ps)->Q (.ref t) H') (k2:∀ (t kt w:Addr) (key:List Int×Int) H',lO K H H'->bR K H'->aC K H' t [.str "told",.ref kt]->aC K H' kt [.ref w,.int key.2]->aC K H' w (key.1.map V.int)->key.1.length=5->(key.2=0\/2<=key.2)->ue 400000 key.1->(∀ c,c.length=5->Span 5 rs c->val key.1 key.2 c=0)->val key.1 key.2 row≠0->Q (.ref t) H'):nY K H Q E [.ref l,.ref a]
abbrev La(K:Frag):Sp:=fun vs H Q E=>nY K H Q E vs
def okK(ks:List (List Int×Int)):Prop:=ks.length<=6/\∀ k∈ks,k.2=0\/2<=k.2
def jn (K:Frag):Sp:=fun vs H Q E=>∃ (l:Addr) (xs:List V) (ks:List (List Int×Int)),vs=[.ref l]/\aP K H l xs/\aY K H xs ks/\(okK ks->Q (.ref l) H)/\(¬ okK ks->∀ C H',PySem.W.nsIn K mainGlobals "NoKeys"=some (some (.ref C))->aj H H'->E (.ref C) none H')
inductive kW(K:Frag)(H:Hp)(Q:VK)(E:XK):List V->Prop where
 | c {l a:Addr} {xs:List V} {ks:List (List Int×Int)} {row:List Int} (h:aP K H l xs/\aY K H xs ks/\ks.length<=6/\(∀ k∈ks,k.2=0\/2<=k.2)/\(∀ k∈ks,k.1.length=5/\ue 1000 k.1)/\aC K H a (row.map V.int)/\row.length=5/\ue 100000 row) (k:∀ p H',aj H H'->aC K H' p ((ks.map fun k=>val k.1 k.2 row).map V.int)->Q (.ref p) H'):kW K H Q E [.ref l,.ref a]
abbrev G4(K:Frag):Sp:=fun vs H Q E=>kW K H Q E vs
inductive ia(K:Frag)(H:Hp)(Q:VK)(E:XK):List V->Prop where
 | c {l kt wa:Addr} {b:Nat} {m:Int} {xs:List V} {st:List (List Int)} {ws:List Int} (h:aP K H l xs/\az K H xs st/\Len 5 st/\st.length<=5/\(∀ v∈st,bY (2 ^ b) v)/\aC K H kt [.ref wa,.int m]/\aC K H wa (ws.map V.int)/\ws.length=5/\0<=m/\ue 400000 ws/\(∀ v∈st,(val ws m v).natAbs<=2 ^ b)/\m.natAbs<=2 ^ b/\b<=50000/\bR K H) (k:∀ l' H' ys gm,H l'=none->lO K H H'->bR K H'->H' l'=some (.lst ys)->az K H' ys gm->eY st ws m gm->gm.length<=5->Q (.ref l') H'):ia K H Q E [.ref l,.ref kt]
abbrev wN(K:Frag):Sp:=fun vs H Q E=>ia K H Q E vs
inductive zv(K:Frag)(H:Hp)(Q:VK)(E:XK):List V->Prop where
 | c {l:Addr} {W:Nat} {xs:List V} {ks:List (List Int×Int)} (h:aP K H l xs/\aY K H xs ks/\ks.length<=6/\(∀ k∈ks,k.2=0\/2<=k.2)/\(∀ k∈ks,k.1.length=5/\bY (2 ^ W) k.1/\k.2.natAbs<=2 ^ W)/\W<=190/\bR K H) (k:∀ l' H' ys st,H l'=none->lO K H H'->bR K H'->H' l'=some (.lst ys)->az K H' ys st->Lo ks st->st.length<=5->(∀ r∈st,bY (2 ^ eL.lb W ks.length) r)->Q (.ref l') H'):zv K H Q E [.ref l]
abbrev NW(K:Frag):Sp:=fun vs H Q E=>zv K H Q E vs
inductive ib(K:Frag)(H:Hp)(Q:VK)(E:XK):List V->Prop where
 | c {w0:Str} {ws:List Str} (h:Ln w0 ws) (k:∀ l H',aj H H'->H' l=some (.lst ((w0::ws).map V.str))->Q (.ref l) H'):ib K H Q E [.str (Tr w0 ws)]
abbrev wO(K:Frag):Sp:=fun vs H Q E=>ib K H Q E vs
def fq (K:Frag):Sp:=fun vs H Q E=>∃ z:Str,vs=[.str z]/\z.length<=1000/\(bz.CU z 60=none->(∀ C H',PySem.W.nsIn K mainGlobals "NoSpan"=some (some (.ref C))->aj H H'->E (.ref C) none H'))/\∀ t b:Nat,bz.CU z 60=some (t,b)->∃ (c0 c1 c2 c3 c4 d0 d1 d2 d3 d4:Nat) (m m':Int),(t:Int)=dX c0 c1 c2 c3 c4*m/\(b:Int)=dX d0 d1 d2 d3 d4*m'/\Oy m/\Oy m'/\(m≠m'->(∀ C H',PySem.W.nsIn K mainGlobals "NoSpan"=some (some (.ref C))->aj H H'->E (.ref C) none H'))/\(m=m'->fits (c0 - d0) (c1 - d1) (c2 - d2) (c3 - d3) (c4 - d4)=false->(∀ C H',PySem.W.nsIn K mainGlobals "TooFar"=some (some (.ref C))->aj H H'->E (.ref C) none H'))/\(m=m'->fits (c0 - d0) (c1 - d1) (c2 - d2) (c3 - d3) (c4 - d4)=true->∀ p H',aj H H'->H' p=some (.tup [.int (c0 - d0),.int (c1 - d1),.int (c2 - d2),.int (c3 - d3),.int (c4 - d4)])->Q (.ref p) H')
inductive f9(K:Frag)(H:Hp)(Q:VK)(E:XK):List V->Prop where
 | c {l m:Addr} {xs ys:List V} {rs:List (List Int)} {ks:List (List Int×Int)} (h:aP K H l xs/\az K H xs rs/\rs.length<=6/\(∀ v∈rs,v.length=5/\ue 1000 v)/\aP K H m ys/\aY K H ys ks/\ks.length<=6/\(∀ k∈ks,k.2=0\/2<=k.2)/\(∀ k∈ks,k.1.length=5/\ue 1000 k.1)) (k1:∀ (i:Nat) H',i<rs.length->Hr ks (rs.getD i [])->(∀ j,j<i->¬ Hr ks (rs.getD j []))->aj H H'->Q (.int i) H') (k2:∀ H',(∀ r∈rs,¬ Hr ks r)->aj H H'->Q .cJ H'):f9 K H Q E [.ref l,.ref m]
abbrev uU(K:Frag):Sp:=fun vs H Q E=>f9 K H Q E vs
inductive sO(K:Frag)(H:Hp)(Q:VK)(E:XK):List V->Prop where
 | c {l m:Addr} {b W:Nat} {xs ys:List V} {rs:List (List Int)} {ks:List (List Int×Int)} (h:aP K H l xs/\az K H xs rs/\rs.length<=6/\Len 5 rs/\(∀ v∈rs,bY (2 ^ b) v)/\b<=109/\aP K H m ys/\aY K H ys ks/\ks.length<=6/\(∀ k∈ks,k.2=0\/2<=k.2)/\(∀ k∈ks,k.1.length=5/\bY (2 ^ W) k.1/\k.2.natAbs<=2 ^ W)/\W<=60/\bR K H) (k1:∀ (i:Nat) p H',i<rs.length->Hr ks (rs.getD i [])->(∀ j,j<i->¬ Hr ks (rs.getD j []))->lO K H H'->bR K H'->aC K H' p [.str "comma",.int i]->Q (.ref p) H') (k2:∀ (p ra kt w:Addr) (row:List Int) (key:List Int×Int) st H',(∀ r∈rs,¬ Hr ks r)->Lo ks st->row∈st->row.length=5->bY (2 ^ 60000) row->lO K H H'->bR K H'->aC K H' p [.str "span",.ref ra,.ref kt]->aC K H' ra (row.map V.int)->aC K H' kt [.ref w,.int key.2]->aC K H' w (key.1.map V.int)->key.1.length=5->(key.2=0\/2<=key.2)->ue 400000 key.1->(∀ c,c.length=5->Span 5 rs c->val key.1 key.2 c=0)->val key.1 key.2 row≠0->Q (.ref p) H') (k3:∀ p pl H' us x8 st,(∀ r∈rs,¬ Hr ks r)->Lo ks st->st.length<=5->(∀ r∈st,bY (2 ^ 60000) r)->lO K H H'->bR K H'->aC K H' p [.str "same",.ref pl]->H' pl=some (.lst us)->ee H' us x8->x8.length=st.length->(∀ i,i<st.length->(x8.getD i []).length=rs.length/\(∀ x∈x8.getD i [],x.natAbs<=2 ^ 400000)/\∀ j,j<5->(st.getD i []).getD j 0=dj j rs (x8.getD i []))->Q (.ref p) H'):sO K H Q E [.ref l,.ref m]
abbrev NX(K:Frag):Sp:=fun vs H Q E=>sO K H Q E vs
inductive i4(K:Frag)(H:Hp)(Q:VK)(E:XK):List V->Prop where
 | c {b:Bool} (k:Q (.str (yn b)) H):i4 K H Q E [.bl b]
abbrev zw(K:Frag):Sp:=fun vs H Q E=>i4 K H Q E vs
def rS(K:Frag):Sp:=O8 (ZN K)
def BX(K:Frag):Sp:=O8 fun vs H R=>∃ (d p c k:Addr) (ys:List V) (qs:List (List Int×Int)) (w:List Int) (m:Int),vs=[.ref d,.ref p,.int m]/\aC K H p (w.map V.int)/\R4 K d c k ys qs m H/\R3 K d c ys w m H R
def wQ(K:Frag):Sp:=O8 (ZO K)
def uV(K:Frag):Sp:=O8 (ZP K)
def nZ(K:Frag):Sp:=O8 (ZQ K)
def rT(K:Frag):Sp:=O8 (ZR K)
def uW(K:Frag):Sp:=O8 (ZS K)
def qJ(K:Frag):Sp:=fun vs H Q _=>∃ (a:Addr) (ns:List Int) (k:Int),vs=[.ref a,.int k]/\aP K H a (ns.map V.int)/\0<=k/\Q (.int (ns.getD k.toNat 0)) H
def qK(K:Frag):Sp:=fun vs H Q _=>∃ (a b:Addr) (n:Int) (r q:List Int),vs=[.ref a,.int n,.ref b]/\aC K H a (r.map V.int)/\aC K H b (q.map V.int)/\r.length=q.length/\r.length<=1000/\(∀ y∈q,E2 n y)/\∀ p H',aj H H'->aC K H' p ((ei r n q).map V.int)->Q (.ref p) H'
inductive cZ(K:Frag)(H:Hp)(Q:VK)(E:XK):List V->Prop where
 | c {kt w a:Addr} {m:Int} {ws row:List Int} (h:aC K H kt [.ref w,.int m]/\aC K H w (ws.map V.int)/\aC K H a (row.map V.int)/\ws.length=5/\row.length=5/\(m=0\/2<=m)/\ue 400000 ws/\ue 100000 row) (k:∀ H',aj H H'->Q (.int (val ws m row)) H'):cZ K H Q E [.ref kt,.ref a]
abbrev zx(K:Frag):Sp:=fun vs H Q E=>cZ K H Q E vs
inductive mP(K:Frag)(H:Hp)(Q:VK)(E:XK):List V->Prop where
 | c {m l:Addr} {xs:List V} {rs:List (List Int)} {ps:List Int} (h:aP K H m (ps.map V.int)/\aP K H l xs/\az K H xs rs/\rs.length=ps.length/\rs.length<=100/\Len 5 rs/\(∀ r∈rs,∀ y∈r,∀ n∈ps,E2 n y)) (k:∀ p H',aj H H'->aC K H' p ((cQ (cz 5) rs ps).map V.int)->Q (.ref p) H'):mP K H Q E [.ref m,.ref l]
abbrev DR(K:Frag):Sp:=fun vs H Q E=>mP K H Q E vs
inductive b9(K:Frag)(H:Hp)(Q:VK)(E:XK):List V->Prop where
 | c {a:Addr} {r:List Int} (ha:aC K H a (r.map V.int)) (hr:RB 18 4 r) (k:∀ H',aj H H'->Q (.str (Ad r)) H'):b9 K H Q E [.ref a]
abbrev rV(K:Frag):Sp:=fun vs H Q E=>b9 K H Q E vs
inductive i5(K:Frag)(H:Hp)(Q:VK)(E:XK):List V->Prop where
 | c {a C:Addr} {w:Str} {q:Prop} (ha:H a=some (tR q a C none)) (hc:Cw K C w) (k:∀ H',aj H H'->Q (.str w) H'):i5 K H Q E [.ref a]
abbrev zy(K:Frag):Sp:=fun vs H Q E=>i5 K H Q E vs
def ZV (K:Frag) (Q:VK):RR:=mkR (fun v H'=>(∃ s:Str,v=.str s)/\Q v H') fun c H'=>∃ w,Cw K c w/\∀ p H2,aj H' H2->H2 p=some (.tup [.str "refused",.str w])->Q (.ref p) H2
def cA(K:Frag):Sp:=fun vs H Q _=>∃ (d:Addr) (z:Str),vs=[.ref d,.str z]/\Tld K d z H (ZV K Q)
def qL(K:Frag):Sp:=fun vs H Q _=>∃ c:Int,vs=[.int c]/\(0<=c/\c<=1000003)/\∀ p r H',aj H H'->H' p=some (.tup (r.map V.int))->RB 9 2 r->Q (.ref p) H'
def j0(K:Frag):Sp:=fun vs H Q _=>∃ c:Int,vs=[.int c]/\(0<=c/\c<=1000003)/\∀ p r H',aj H H'->H' p=some (.tup (r.map V.int))->r.length=5->Dy r->Q (.ref p) H'
inductive cE(K:Frag)(H:Hp)(Q:VK)(E:XK):List V->Prop where
 | c {l a f:Addr} {xs:List V} {rs:List (List Int)} {row:List Int} (h:aP K H l xs/\az K H xs rs/\Fe rs/\aC K H a (row.map V.int)/\RB 18 4 row/\((∃ (pl:Addr) (ps:List Int),aC K H f [.str "made",.ref pl]/\H pl=some (.lst (ps.map V.int))/\ps.length=rs.length/\(∀ x∈ps,x.natAbs<=2 ^ 400000)/\∀ i,i<5->row.getD i 0=dj i rs ps)\/(∃ (kt w:Addr) (key:List Int×Int),aC K H f [.str "told",.ref kt]/\aC K H kt [.ref w,.int key.2]/\aC K H w (key.1.map V.int)/\key.1.length=5/\(key.2=0\/2<=key.2)/\ue 400000 key.1/\(∀ c,c.length=5->Span 5 rs c->val key.1 key.2 c=0)/\val key.1 key.2 row≠0))) (k:∀ H',aj H H'->Q (.bl true) H'):cE K H Q E [.ref l,.ref a,.ref f]
abbrev mQ(K:Frag):Sp:=fun vs H Q E=>cE K H Q E vs
def jo(K:Frag):Sp:=fun vs H Q _=>∃ (l m:Addr) (xs ys:List V) (rs:List (List Int)) (qs:List (List Int×Int)),vs=[.ref l,.ref m]/\aP K H l xs/\az K H xs rs/\Fe rs/\aP K H m ys/\aY K H ys qs/\KM qs/\bR K H/\XD K rs qs H Q
inductive j1(K:Frag)(H:Hp)(Q:VK)(E:XK):List V->Prop where
 | c {d lc lk:Addr} {H0:Hp} {rs:List (List Int)} {qs:List (List Int×Int)} {c:Int} (h:St K d lc lk H0 rs rs qs qs H/\Fe rs/\KM qs) (k:∀ H' Wi LN,St K d lc lk H0 Wi Wi LN LN H'->Fe Wi->KM LN->Q (.bl true) H'):j1 K H Q E [.ref d,.int c,.ref lc,.ref lk]
abbrev BY(K:Frag):Sp:=fun vs H Q E=>j1 K H Q E vs
inductive ft(K:Frag)(H:Hp)(Q:VK)(E:XK):List V->Prop where
 | c {d lc lk:Addr} {H0:Hp} {rs:List (List Int)} {qs:List (List Int×Int)} {c:Int} (h:St K d lc lk H0 rs rs qs qs H/\Fe rs/\KM qs) (k:∀ H',St K d lc lk H0 rs rs qs qs H'->Q (.bl true) H'):ft K H Q E [.ref d,.int c,.ref lc,.ref lk]
abbrev zz(K:Frag):Sp:=fun vs H Q E=>ft K H Q E vs
inductive i6(K:Frag)(H:Hp)(Q:VK)(E:XK):List V->Prop where
 | c {x C dx:Addr} (hC:Nm K "Desk" C) (hx:H x=some (.ins C dx [])) (k:∀ (c k:Addr) H',H c=none->H k=none->c≠k->c≠x->k≠x->Ch x H H'->H' c=some (.lst [])->H' k=some (.lst [])->Dk K x c k H'->Q .cJ H'):i6 K H Q E [.ref x]
abbrev zA(K:Frag):Sp:=fun vs H Q E=>i6 K H Q E vs
def zB(K:Frag):Sp:=O8 fun vs H R=>∃ (d:Addr) (z:Str),vs=[.ref d,.str z]/\Tld K d z H R
section
variable {K:Frag}{H:Hp}{Q:VK}{E:XK}
theorem DS(hv:Kn K H v)(k:Q (.bl (wh v)) H):qI K [v] H Q E:=⟨v,rfl,hv,k⟩
theorem uX(h:(∃ (a:Addr) (xs:List V),v=.ref a/\aC K H a xs/\xs.length<=1000/\(∀ x∈xs,Kn K H x)/\∀ H',aj H H'->Q (.bl (decide (xs.length=5) && xs.all wh)) H')\/(NT K H v/\Q (.bl false) H)):xZ K [v] H Q E:=⟨v,rfl,h⟩
theorem DT{x0 x1 x2 x3 x4:Int}(ha:aC K H a [.int x0,.int x1,.int x2,.int x3,.int x4])(k:∀ H',aj H H'->Q (.bl (fits x0 x1 x2 x3 x4)) H'):uO K [.ref a] H Q E:=⟨_,rfl,.inl ⟨a,x0,x1,x2,x3,x4,rfl,ha,k⟩⟩
theorem Lb(r q:List Int)(ha:aC K H a (r.map V.int))(hb:aC K H b (q.map V.int))(hl:r.length=q.length)(hn:r.length<=1000)(k:∀ p H',aj H H'->H' p=some (.tup ((sub r q).map V.int))->Q (.ref p) H'):Fj K [.ref a,.ref b] H Q E:=⟨a,b,r,q,rfl,ha,hb,hl,hn,k⟩
theorem Fl{n:Int}(r:List Int)(ha:aC K H a (r.map V.int))(hn:r.length<=1000)(hm:∀ x∈r,qv x n)(k:∀ p H',aj H H'->H' p=some (.tup ((bH r n).map V.int))->Q (.ref p) H'):BS K [.ref a,.int n] H Q E:=⟨a,r,n,rfl,ha,hn,hm,k⟩
theorem eG(hl:aP K H l ys)(hn:ys.length<=6)(k:Q (.ref l) H):gF K [.ref l] H Q E:=⟨l,ys,rfl,hl,fun _=>k,fun h=>by lia⟩
theorem pM{p n M k:Nat}(v s:List Int)(ha:aC K H a (v.map V.int))(hb:aC K H b (s.map V.int))(lv:v.length=n)(ls:s.length=n)(hn:n<=1000)(hp:p<n)(h0:s.getD p 0≠0)(bv:bY M v)(bs:bY M s)(hM:M<2 ^ k)(hk:k<=60000000)(kk:∀ p' H',aj H H'->H' p'=some (.tup ((bC p s v).map V.int))->Q (.ref p') H'):uQ K [.ref a,.ref b,.int p] H Q E:=⟨a,b,p,n,M,k,v,s,rfl,ha,hb,lv,ls,hn,hp,h0,bv,bs,hM,hk,kk⟩
theorem BZ{kk:Bool}(ws rs:List Int)(hw:Sq kk K H w (ws.map V.int))(hr:aC K H r (rs.map V.int))(hl:ws.length<=rs.length)(hn:rs.length<=1000)(hm:∀ i,i<ws.length->c7 (rs.getD i 0) (ws.getD i 0))(k:∀ H',aj H H'->Q (.int (dt rs ws)) H'):uS K [.ref w,.ref r] H Q E:=⟨w,r,kk,ws,rs,rfl,hw,hr,hl,hn,hm,k⟩
theorem NY(ws rs:List Int)(hw:aC K H w (ws.map V.int))(hr:aC K H r (rs.map V.int))(hl:rs.length=ws.length)(hn:rs.length<=1000)(hm:∀ i,i<rs.length->c7 (rs.getD i 0) (ws.getD i 0))(k:∀ H',aj H H'->Q (.int (dot rs ws)) H'):uS K [.ref w,.ref r] H Q E:=BZ ws rs (gR hw) hr aaa hn (fun i hi=>hm i aaa) k
theorem zC{m:Int}(ws rs:List Int)(hk:aC K H kk [.ref w,.int m])(hw:aC K H w (ws.map V.int))(hr:aC K H r (rs.map V.int))(hl:rs.length=ws.length)(hn:rs.length<=1000)(hm:∀ i,i<rs.length->c7 (rs.getD i 0) (ws.getD i 0))(h0:0<=m)(k:∀ H',aj H H'->Q (.int (val ws m rs)) H'):BV K [.ref kk,.ref r] H Q E:=⟨kk,w,r,m,ws,rs,rfl,hk,hw,hr,hl,hn,hm,h0,k⟩
theorem gb(h:aP K H l xs/\aY K H xs ks/\ks.length<=6/\∀ k∈ks,k.2=0\/2<=k.2)(k:Q (.ref l) H):jn K [.ref l] H Q E:=⟨l,xs,ks,rfl,h.1,h.2.1,fun _=>k,fun z=>absurd ⟨h.2.2.1,h.2.2.2⟩ z⟩
theorem j2(hr:RB 18 4 r)(k:∀ p H',aj H H'->H' p=some (.tup (r.map V.int))->Q (.ref p) H'):fq K [.str (Ad r)] H Q E:=by
 have Jk:=hr
 have hl:=gA hr
 obtain ⟨a0,a1,a2,a3,a4,rfl,_⟩:=hr
 have t:=Fd Jk
 have hpm:=bz.Js (m:=60) (t:=(AA a0 a1 a2 a3 a4).toNat) (b:=(yu a0 a1 a2 a3 a4).toNat) aa8 ⟨by have:=jA a0 a1 a2 a3 a4;lia,qw t.1⟩ ⟨by have:=jB a0 a1 a2 a3 a4;lia,qw t.2⟩
 have b:=back a0 0
 refine⟨_,rfl,aag hl aa8,fun hn=>(by rw [show bz.CU (Ad [a0,a1,a2,a3,a4]) 60=_ from hpm] at hn;cases hn),fun t' b' UM=>?_⟩
 rw [show bz.CU (Ad [a0,a1,a2,a3,a4]) 60=_ from hpm] at UM
 cases UM
 have bb:∀ a:Int,(a.toNat:Int) - ((-a).toNat:Int)=a:=fun a=>by lia
 refine⟨a0.toNat,a1.toNat,a2.toNat,a3.toNat,a4.toNat,(-a0).toNat,(-a1).toNat,(-a2).toNat,(-a3).toNat,(-a4).toNat,1,1,?_,?_,NJ,NJ,fun h=>absurd rfl h,fun _ hf=>?_,fun _ _ p H' s m=>?_⟩
 ·rw [Int.toNat_of_nonneg (Int.le_of_lt (jA ..)),mul_one];rfl
 ·rw [Int.toNat_of_nonneg (Int.le_of_lt (jB ..)),mul_one];rfl
 ·rw [bb,bb,bb,bb,bb,NH (Jk.mono aa8 aa8)] at hf
  cases hf
 ·rw [bb,bb,bb,bb,bb] at m
  exact k p H' s m
theorem Lc(k:∀ C H',Nm K "NoSpan" C->aj H H'->E (.ref C) none H'):fq K [.str "5"] H Q E:=by
 have e:bz.CU "5" 60=none:=by decide +kernel
 exact⟨_,rfl,aa8,fun _=>k,fun t b h=>by rw [e] at h;cases h⟩
theorem DU(k:∀ C H',Nm K "TooFar" C->aj H H'->E (.ref C) none H'):fq K [.str "127173474825648610542883299603/1"] H Q E:=by
 have e:bz.CU "127173474825648610542883299603/1" 60=some (3 ^ 61,1):=by decide +kernel
 refine⟨_,rfl,aa8,fun h=>(by rw [e] at h;cases h),fun t b h=>?_⟩
 rw [e] at h
 cases h
 exact⟨0,61,0,0,0,0,0,0,0,0,1,1,TH,TH,NJ,NJ,fun h=>absurd rfl h,fun _ _=>k,fun _ h=>absurd h TH⟩
theorem DV{a:Addr}{ns:List Int}{j:Int}(ha:aP K H a (ns.map V.int))(h0:0<=j)(k:Q (.int (ns.getD j.toNat 0)) H):qJ K [.ref a,.int j] H Q E:=⟨a,ns,j,rfl,ha,h0,k⟩
theorem qM{n:Int}(r q:List Int)(ha:aC K H a (r.map V.int))(hb:aC K H b (q.map V.int))(hl:r.length=q.length)(h1:r.length<=1000)(hm:∀ y∈q,E2 n y)(k:∀ p H',aj H H'->aC K H' p ((ei r n q).map V.int)->Q (.ref p) H'):qK K [.ref a,.int n,.ref b] H Q E:=⟨a,b,n,r,q,rfl,ha,hb,hl,h1,hm,k⟩
theorem Sh {d lc lk:Addr} {H0:Hp} {r1 r2:List (List Int)} {q1 q2:List (List Int×Int)} (S:St K d lc lk H0 r1 r2 q1 q2 H) (h6:Fe r1) (k:∀ p H',aj H H'->H' p=some (.tup [.str "refused",.str "TooFar"])->Q (.ref p) H'):cA K [.ref d,.str "comma 127173474825648610542883299603/1"] H Q E:=by
 obtain ⟨c0,k0,Fm⟩:=S.dk
 refine⟨d,_,rfl,c0,k0,"comma",["127173474825648610542883299603/1"],Fm,TH,uv aa8 aa8 TH TH,fun l H1 s1 ml=>.inl ⟨rfl,?_⟩⟩
 obtain ⟨⟨c,k',xs,_,_,_,hD,⟨m1,w1⟩,_⟩,_,_,_⟩:=S.same s1
 exact⟨d,l,c,k',_,xs,rfl,aP.of ml,hD,m1,by rw [<- w1.length];exact h6.1,.inr (.inl ⟨rfl,fun C H2 hC s2=>⟨"TooFar",.inl ⟨hC,rfl⟩,fun p H3 s3 m3=>k p H3 ((s1.trans s2).trans s3) m3⟩⟩)⟩
theorem ZW {d lc lk:Addr} {H0:Hp} {r1 r2:List (List Int)} {q1 q2:List (List Int×Int)} (S:St K d lc lk H0 r1 r2 q1 q2 H) (h6:Fe r1) (k:∀ p H',aj H H'->H' p=some (.tup [.str "refused",.str "NoSpan"])->Q (.ref p) H'):cA K [.ref d,.str "comma 5"] H Q E:=by
 obtain ⟨c0,k0,Fm⟩:=S.dk
 refine⟨d,_,rfl,c0,k0,"comma",["5"],Fm,TH,uv aa8 aa8 TH TH,fun l H1 s1 ml=>.inl ⟨rfl,?_⟩⟩
 obtain ⟨⟨c,k',xs,_,_,_,hD,⟨m1,w1⟩,_⟩,_,_,_⟩:=S.same s1
 exact⟨d,l,c,k',_,xs,rfl,aP.of ml,hD,m1,by rw [<- w1.length];exact h6.1,.inl ⟨rfl,fun C H2 hC s2=>⟨"NoSpan",.inr (.inl ⟨hC,rfl⟩),fun p H3 s3 m3=>k p H3 ((s1.trans s2).trans s3) m3⟩⟩⟩
theorem Ld {d lc lk:Addr} {H0:Hp} {r1 r2:List (List Int)} {q1 q2:List (List Int×Int)} (S:St K d lc lk H0 r1 r2 q1 q2 H) (h6:Fe r1) {r:List Int} (hr:RB 9 2 r) (k6:r1.length=6->∀ p H',aj H H'->H' p=some (.tup [.str "refused",.str "NoCommas"])->Q (.ref p) H') (k5:r1.length<6->∀ H',St K d lc lk H0 (r1++[r]) r2 q1 q2 H'->Tp K H H'->Q (.str (nw ((r1.length:Int)+1))) H'):cA K [.ref d,.str ("comma "++Ad r)] H Q E:=by
 obtain ⟨c0,k0,Fm⟩:=S.dk
 have Jk:RB 18 4 r:=hr.mono aa8 aa8
 refine⟨d,_,rfl,c0,k0,"comma",[Ad r],Fm,congrArg (·++Ad r) aa8,uv aa8 aa8 (DC Jk) (aag (gA Jk) aa8),fun l H1 s1 ml=>.inl ⟨rfl,?_⟩⟩
 obtain ⟨⟨c,k',xs,ys,us,vs,hD,⟨m1,w1⟩,⟨m2,w2⟩,⟨m3,w3⟩,⟨m4,w4⟩,n1,n2,n3,n4,n5⟩,tb,s0,n0⟩:=S.same s1
 have lx:=w1.length
 exact⟨d,l,c,k',_,xs,rfl,aP.of ml,hD,m1,by rw [<- lx];exact h6.1,.inr (.inr ⟨r,rfl,Jk,fun e C H2 hC s2=>⟨"NoCommas",.inr (.inr (.inl ⟨hC,rfl⟩)),fun p H3 s3 m3=>k6 aaa p H3 ((s1.trans s2).trans s3) m3⟩,
  fun e p c' H2 nc nd ch dk mc mp=>⟨⟨_,rfl⟩,by rw [<- lx];exact k5 aaa H2 (ZT hD w1 m2 w2 m3 w3 m4 w4 n3 n4 n5 tb s0 n0 nc ch dk mc mp) fun a xs h=>hD.tp ch a xs (s1.at h)⟩⟩)⟩
theorem Si {d lc lk:Addr} {H0:Hp} {r1 r2:List (List Int)} {q1 q2:List (List Int×Int)} (S:St K d lc lk H0 r1 r2 q1 q2 H) (h6:KM q1) {w:List Int} {m:Int} (l5:w.length=5) (hf:Dy w) (hm:m=0\/2<=m) (hm4:m<=40) {z:Str} (hz:(m=0/\z=Tr "key" (w.map nw))\/z=Tr "ring" ((m::w).map nw)) (k6:q1.length=6->∀ p H',aj H H'->H' p=some (.tup [.str "refused",.str "NoKeys"])->Q (.ref p) H') (k5:q1.length<6->∀ H',St K d lc lk H0 r1 r2 (q1++[(w,m)]) q2 H'->Tp K H H'->Q (.str (nw ((q1.length:Int)+1))) H'):cA K [.ref d,.str z] H Q E:=by
 obtain ⟨c0,k0,Fm⟩:=S.dk
 have core:∀ H1,aj H H1->∃ (c k:Addr) (ys:List V),R4 K d c k ys q1 m H1/\R3 K d c ys w m H1 (ZV K Q):=fun H1 s1=>by
  obtain ⟨⟨c,k',xs,ys,us,vs,hD,⟨m1,w1⟩,⟨m2,w2⟩,⟨m3,w3⟩,⟨m4,w4⟩,n1,n2,n3,n4,n5⟩,tb,s0,n0⟩:=S.same s1
  have lx:=w2.length
  exact⟨c,k',ys,⟨hD,m2,w2,by rw [<- lx];exact h6.1,fun q hq=>(h6.2 q hq).2.2.1,hm⟩,fun e C H2 hC s2=>⟨"NoKeys",.inr (.inr (.inr ⟨hC,rfl⟩)),fun p H3 s3 m3=>k6 aaa p H3 ((s1.trans s2).trans s3) m3⟩,
   fun e p q k' H2 nc nd ch dk mc mp mq=>⟨⟨_,rfl⟩,by rw [<- lx];exact k5 aaa H2 (ZU hD m1 w1 w2 m3 w3 m4 w4 n1 n2 n5 tb s0 n0 nc ch dk mc mp mq) fun a xs h=>hD.tp ch a xs (s1.at h)⟩⟩
 rcases hz with ⟨rfl,hz⟩|hz
 ·refine⟨d,_,rfl,c0,k0,"key",w.map nw,Fm,hz,Fg (by rw [l5];decide) hf,fun l H1 s1 ml=>.inr (.inl ⟨rfl,?_⟩)⟩
  obtain ⟨c,k,ys,h1,h2⟩:=core H1 s1
  exact⟨d,l,c,k,ys,q1,w,rfl,aP.of ml,l5,hf,h1,h2⟩
 ·have hf':Dy (m::w):=fun x hx=>(aaC.mp hx).elim (fun e=>by lia) (hf x)
  refine⟨d,_,rfl,c0,k0,"ring",(m::w).map nw,Fm,hz,Fg (by rw [length_cons,l5];decide) hf',fun l H1 s1 ml=>.inr (.inr (.inl ⟨rfl,?_⟩))⟩
  obtain ⟨c,k,ys,h1,h2⟩:=core H1 s1
  exact⟨d,l,c,k,ys,q1,w,m,rfl,aP.of ml,l5,hf',h1,h2⟩
theorem uY {d lc lk:Addr} {H0:Hp} {r1 r2:List (List Int)} {q1 q2:List (List Int×Int)} (S:St K d lc lk H0 r1 r2 q1 q2 H) (h6:Fe r1) {r:List Int} (hr:RB 18 4 r) (k:∀ (b:Bool) H',lO K H H'->bR K H'->(b=true↔Span 5 r1 r)->Q (.str (yn b)) H'):cA K [.ref d,.str ("nothing "++Ad r)] H Q E:=by
 obtain ⟨c0,k0,Fm⟩:=S.dk
 refine⟨d,_,rfl,c0,k0,"nothing",[Ad r],Fm,congrArg (·++Ad r) aa8,uv aa8 aa8 (DC hr) (aag (gA hr) aa8),fun l H1 s1 ml=>.inr (.inr (.inr (.inl ⟨rfl,?_⟩)))⟩
 obtain ⟨⟨c,k',xs,_,_,_,hD,⟨m1,w1⟩,_⟩,tb,_,_⟩:=S.same s1
 exact⟨d,l,c,k',xs,r1,r,rfl,aP.of ml,hr,hD,m1,w1,h6,tb,fun b H2 s2 t2 hb=>⟨⟨_,rfl⟩,k b H2 ((aU.of s1).trans s2) t2 hb⟩⟩
theorem Le {d lc lk:Addr} {H0:Hp} {r1 r2:List (List Int)} {q1 q2:List (List Int×Int)} (S:St K d lc lk H0 r1 r2 q1 q2 H) (h6:KM q1) {r:List Int} (hr:RB 18 4 r) (k:∀ H',aj H H'->Q (.str (sdt q1 r)) H'):cA K [.ref d,.str ("sound "++Ad r)] H Q E:=by
 obtain ⟨c0,k0,Fm⟩:=S.dk
 refine⟨d,_,rfl,c0,k0,"sound",[Ad r],Fm,congrArg (·++Ad r) aa8,uv aa8 aa8 (DC hr) (aag (gA hr) aa8),fun l H1 s1 ml=>.inr (.inr (.inr (.inr (.inl ⟨rfl,?_⟩))))⟩
 obtain ⟨⟨c,k',_,ys,_,_,hD,_,⟨m2,w2⟩,_⟩,_,_,_⟩:=S.same s1
 exact⟨d,l,c,k',ys,q1,r,rfl,aP.of ml,hr,hD,m2,w2,h6,fun H2 s2=>⟨⟨_,rfl⟩,k H2 (s1.trans s2)⟩⟩
theorem NZ {d lc lk:Addr} {H0:Hp} {r1 r2:List (List Int)} {q1 q2:List (List Int×Int)} (S:St K d lc lk H0 r1 r2 q1 q2 H) (h6:Fe r1) (h7:KM q1) (k:XD K r1 q1 H Q):cA K [.ref d,.str "same"] H Q E:=by
 obtain ⟨c0,k0,Fm⟩:=S.dk
 refine⟨d,_,rfl,c0,k0,"same",[],Fm,aa8,⟨aa8,(fun _ h=>nomatch h),(fun _ _ h=>nomatch h)⟩,fun l H1 s1 ml=>.inr (.inr (.inr (.inr (.inr ⟨rfl,?_⟩))))⟩
 obtain ⟨⟨c,k',xs,ys,_,_,hD,⟨m1,w1⟩,⟨m2,w2⟩,_⟩,tb,_,_⟩:=S.same s1
 exact⟨d,l,c,k',xs,ys,r1,q1,rfl,hD,m1,w1,h6,m2,w2,h7,tb,fun i H2 a b c' s2 t2=>⟨⟨_,rfl⟩,k.1 i H2 a b c' ((aU.of s1).trans s2) t2⟩,fun b H2 a c' s2 t2=>⟨⟨_,rfl⟩,k.2 b H2 a c' ((aU.of s1).trans s2) t2⟩⟩
theorem uZ{c:Int}(hc:0<=c/\c<=1000003)(k:∀ p r H',aj H H'->H' p=some (.tup (r.map V.int))->RB 9 2 r->Q (.ref p) H'):qL K [.int c] H Q E:=⟨c,rfl,hc,k⟩
theorem wR{c:Int}(hc:0<=c/\c<=1000003)(k:∀ p r H',aj H H'->H' p=some (.tup (r.map V.int))->r.length=5->Dy r->Q (.ref p) H'):j0 K [.int c] H Q E:=⟨c,rfl,hc,k⟩
theorem j3(h:aP K H l xs/\az K H xs rs/\Fe rs/\aP K H m ys/\aY K H ys qs/\KM qs/\bR K H/\XD K rs qs H Q):jo K [.ref l,.ref m] H Q E:=⟨l,m,xs,ys,rs,qs,rfl,h⟩
end
local macro_rules|`(tactic|walk_at "hf")=>`(tactic|((with_reducible apply L2.aj.sq);(assumption);(walk_at "hf")))
local macro_rules|`(tactic|walk_at "hf")=>`(tactic|((with_reducible apply L2.aj.lst);(assumption);(walk_at "hf")))
local macro_rules|`(tactic|walk_at "hf")=>`(tactic|((with_reducible apply L2.aj.seq);(assumption);(walk_at "hf")))
local macro_rules|`(tactic|walk_at "hf")=>`(tactic|((with_reducible apply L2.aj.at);(assumption);(walk_at "hf")))
local macro_rules|`(tactic|walk_at "hf")=>`(tactic|((with_reducible apply L2.me);(walk_at "hf")))
local macro_rules|`(tactic|walk_at "hf")=>`(tactic|((with_reducible apply L2.gR);(walk_at "hf")))
local macro_rules|`(tactic|walk_at "hf")=>`(tactic|exact L2.qo.at (by assumption))
local macro_rules|`(tactic|walk_at "hf")=>`(tactic|exact L2.aP.of (by assumption))
local macro_rules|`(tactic|walk_at "hf")=>`(tactic|exact L2.aC.of (by assumption))
local macro_rules|`(tactic|walk_at "hf")=>`(tactic|assumption)
local macro_rules|`(tactic| walk_at "sm") => `(tactic| first|exact L2.aj.refl _|assumption|((refine L2.aj.trans ?_ (by assumption));walk_at "sm"))
local macro_rules|`(tactic|walk_at "side")=>`(tactic|assumption)
local macro_rules|`(tactic|walk_at "side")=>`(tactic|exact⟨aa8, by decide, by decide⟩)
local macro_rules|`(tactic|walk_at "side")=>`(tactic|exact Or.inl ⟨aaa, by lia⟩)
local macro_rules|`(tactic|walk_at "side")=>`(tactic|exact Or.inr ⟨aaa, by lia⟩)
local macro_rules|`(tactic|walk_at "side")=>`(tactic|exact Or.inr ⟨aa8, by decide⟩)
local macro_rules|`(tactic|walk_at "side")=>`(tactic|exact Or.inl ⟨aa8, by decide⟩)
local macro_rules|`(tactic|walk_at "side")=>`(tactic|exact⟨aaa, by lia⟩)
local macro_rules|`(tactic|walk_at "side")=>`(tactic|exact⟨aa8, by decide⟩)
local macro_rules|`(tactic|walk_at "side")=>`(tactic|(show (0 : Int)<_;first|decide|lia))
local macro_rules|`(tactic|walk_at "p")=>`(tactic|((with_reducible apply L2.VC);(walk_at "hf")))
local macro_rules|`(tactic|walk_at "p")=>`(tactic|(with_reducible refine L2.Nb ?_))
local macro_rules|`(tactic|walk_at "p")=>`(tactic|((with_reducible refine L2.Nf ?_);intro p_ H_ n_ s_ m_))
local macro_rules|`(tactic|walk_at "p")=>`(tactic|(with_reducible refine L2.Nh ?_))
local macro_rules|`(tactic|walk_at "p")=>`(tactic|((with_reducible refine L2.Rw ?_ ?_ ?_);(first|exact⟨aa8,aa8⟩|exact⟨aaa,aaa⟩);(first|exact⟨aa8,aa8⟩|exact⟨aaa,aaa⟩)))
local macro_rules|`(tactic|walk_at "p")=>`(tactic|(with_reducible refine L2.Nj ?_))
local macro_rules|`(tactic|walk_at "p")=>`(tactic|((with_reducible apply L2.RC);(assumption);(assumption);(assumption);(exact rfl)))
local macro_rules|`(tactic|walk_at "p")=>`(tactic|(with_reducible refine L2.RD ?_))
local macro_rules|`(tactic|walk_at "p")=>`(tactic|(with_reducible refine L2.VO ?_))
local macro_rules|`(tactic|walk_at "p")=>`(tactic|(with_reducible refine L2.RA ?_))
local macro_rules|`(tactic|walk_at "p")=>`(tactic|((with_reducible apply L2.OO);(walk_at "hf");(exact rfl);(exact rfl)))
local macro_rules|`(tactic|walk_at "p")=>`(tactic|((with_reducible apply L2.Vx);(walk_at "hf");(exact rfl);(exact rfl)))
local macro_rules|`(tactic|walk_at "p")=>`(tactic|(with_reducible refine L2.Vu ?_))
local macro_rules|`(tactic|walk_at "p")=>`(tactic|(with_reducible refine L2.M1 ?_))
local macro_rules|`(tactic|walk_at "p")=>`(tactic|(with_reducible refine L2.M0 ?_))
local macro_rules|`(tactic|walk_at "p")=>`(tactic|(with_reducible refine L2.Rl ?_))
local macro_rules|`(tactic|walk_at "p")=>`(tactic|((with_reducible apply L2.Rk);(exact rfl)))
local macro_rules|`(tactic|walk_at "p")=>`(tactic|((with_reducible apply L2.Rj);(exact rfl)))
local macro_rules|`(tactic|walk_at "p")=>`(tactic|((with_reducible apply L2.yL);(walk_at "hf");(walk_at "hf");(exact cons_ne_nil _ _);(exact cons_ne_nil _ _);(first|exact aa2 rfl|(focus (simp;done))|(focus (simp;lia)));intro p_ H_ s_ m_))
local macro_rules|`(tactic|walk_at "p")=>`(tactic|((with_reducible apply L2.Q3);(walk_at "hf");intro p_ H_ n_ s_ m_))
local macro_rules|`(tactic|walk_at "p")=>`(tactic|((with_reducible apply L2.JA);(walk_at "hf");(walk_at "hf");(first|exact aa2 rfl|(focus (simp;done))|(focus (simp;lia)));intro p_ H_ n_ s_ m_))
local macro_rules|`(tactic|walk_at "p")=>`(tactic|((with_reducible refine L2.MS ?_ ?_);(first|exact rfl|exact Or.inl ⟨rfl,_,by walk_at "hf"⟩)))
local macro_rules|`(tactic|walk_at "p")=>`(tactic|((with_reducible apply L2.QY);(first|exact L2.ny _ _|exact rfl)))
local macro_rules|`(tactic|walk_at "p")=>`(tactic|((with_reducible apply L2.QX);(first|exact L2.ny _ _|exact rfl)))
local macro_rules|`(tactic|walk_at "p")=>`(tactic|((with_reducible apply L2.QW);(walk_at "hf");(first|exact L2.ny _ _|exact rfl)))
local macro_rules|`(tactic|walk_at "p")=>`(tactic|((with_reducible apply L2.QV);(walk_at "hf");(first|exact L2.ny _ _|exact rfl)))
local macro_rules|`(tactic|walk_at "p")=>`(tactic|(with_reducible refine L2.MR ?_))
local macro_rules|`(tactic|walk_at "p")=>`(tactic|(with_reducible refine L2.Vh ?_))
local macro_rules|`(tactic|walk_at "p")=>`(tactic|((with_reducible apply L2.MQ);(walk_at "hf");intro p_ H_ n_ s_ m_))
local macro_rules|`(tactic|walk_at "p")=>`(tactic|((with_reducible apply L2.Jz);(walk_at "hf");intro p_ H_ s_ m_))
local macro_rules|`(tactic|walk_at "p")=>`(tactic|((with_reducible apply L2.QU);(walk_at "hf")))
local macro_rules|`(tactic|walk_at "p")=>`(tactic|((with_reducible apply L2.QT);(walk_at "hf")))
local macro_rules|`(tactic|walk_at "p")=>`(tactic|((with_reducible apply L2.Vg);(walk_at "hf");(walk_at "hf")))
local macro_rules|`(tactic|walk_at "p")=>`(tactic|((with_reducible refine L2.Vf ?_ ?_ ?_);(first|decide|lia);(first|decide|lia)))
local macro_rules|`(tactic|walk_at "p")=>`(tactic|((with_reducible apply L2.Ve);(walk_at "hf")))
local macro_rules|`(tactic|walk_at "p")=>`(tactic|((with_reducible apply L2.Vd);(walk_at "hf")))
local macro_rules|`(tactic|walk_at "p")=>`(tactic|(with_reducible refine L2.QS ?_))
local macro_rules|`(tactic|walk_at "p")=>`(tactic|(with_reducible refine L2.QR ?_))
local macro_rules|`(tactic|walk_at "p")=>`(tactic|(with_reducible refine L2.QQ ?_))
local macro_rules|`(tactic|walk_at "p")=>`(tactic|(with_reducible refine L2.MP ?_))
local macro_rules|`(tactic|walk_at "p")=>`(tactic|(with_reducible refine L2.Vc ?_))
local macro_rules|`(tactic|walk_at "p")=>`(tactic|(with_reducible refine L2.Y4 ?_))
local macro_rules|`(tactic|walk_at "p")=>`(tactic|(with_reducible refine L2.MO ?_))
local macro_rules|`(tactic|walk_at "p")=>`(tactic|(with_reducible refine L2.QP ?_))
local macro_rules|`(tactic|walk_at "p")=>`(tactic|(with_reducible refine L2.Jy ?_))
local macro_rules|`(tactic|walk_at "p")=>`(tactic|(with_reducible refine L2.Y3 ?_))
local macro_rules|`(tactic|walk_at "p")=>`(tactic|(with_reducible refine L2.QO ?_))
local macro_rules|`(tactic|walk_at "p")=>`(tactic|(with_reducible refine L2.MT ?_))
local macro_rules|`(tactic|walk_at "p")=>`(tactic|(with_reducible refine L2.Y2 ?_))
local macro_rules|`(tactic|walk_at "p")=>`(tactic|((with_reducible refine L2.Jx ?_ ?_);(first|exact aa2 rfl|(focus (simp;done))|(focus (simp;lia)));intro p_ H_ n_ s_ m_))
local macro_rules|`(tactic|walk_at "p")=>`(tactic|((with_reducible refine L2.QN ?_ ?_);(first|exact aa2 rfl|(focus (simp;done))|(focus (simp;lia)));intro p_ H_ s_ m_))
local macro_rules|`(tactic|walk_at "p")=>`(tactic|(with_reducible refine L2.Vb ?_))
local macro_rules|`(tactic|walk_at "p")=>`(tactic|(with_reducible refine L2.Va ?_))
local macro_rules|`(tactic|walk_at "p")=>`(tactic|(with_reducible refine L2.QM ?_))
local macro_rules|`(tactic|walk_at "p")=>`(tactic|(with_reducible refine L2.U9 ?_))
local macro_rules|`(tactic|walk_at "p")=>`(tactic|(with_reducible refine L2.U8 ?_))
local macro_rules|`(tactic|walk_at "p")=>`(tactic|(with_reducible refine L2.U7 ?_))
local macro_rules|`(tactic|walk_at "p")=>`(tactic|(with_reducible refine L2.r_U ?_))
local macro_rules|`(tactic|walk_at "p")=>`(tactic|((with_reducible refine L2.Y1 ?_ ?_);(walk_at "side")))
local macro_rules|`(tactic|walk_at "p")=>`(tactic|(with_reducible refine L2.Y0 ?_))
local macro_rules|`(tactic|walk_at "p")=>`(tactic|(with_reducible refine L2.U5 ?_))
local macro_rules|`(tactic|walk_at "p")=>`(tactic|(with_reducible refine L2.QL ?_))
local macro_rules|`(tactic|walk_at "p")=>`(tactic|(with_reducible refine L2.QK ?_))
local macro_rules|`(tactic|walk_at "p")=>`(tactic|(with_reducible refine L2.U4 ?_))
local macro_rules|`(tactic|walk_at "p")=>`(tactic|(with_reducible refine L2.YZ ?_))
local macro_rules|`(tactic|walk_at "p")=>`(tactic|(with_reducible refine L2.U3 ?_))
local macro_rules|`(tactic|walk_at "p")=>`(tactic|(with_reducible refine L2.QJ ?_))
local macro_rules|`(tactic|walk_at "p")=>`(tactic|(with_reducible refine L2.QI ?_))
local macro_rules|`(tactic|walk_at "p")=>`(tactic|(with_reducible refine L2.r_b ?_))
local macro_rules|`(tactic|walk_at "p")=>`(tactic|(with_reducible refine L2.YY ?_))
local macro_rules|`(tactic|walk_at "p")=>`(tactic|(with_reducible refine L2.YX ?_))
local macro_rules|`(tactic|walk_at "p")=>`(tactic|(with_reducible refine L2.YW ?_))
local macro_rules|`(tactic|walk_at "p")=>`(tactic|((with_reducible apply L2.U2);(exact rfl)))
local macro_rules|`(tactic|walk_at "p")=>`(tactic|(with_reducible refine L2.QH ?_))
local macro_rules|`(tactic|walk_at "p")=>`(tactic|(with_reducible refine L2.QG ?_))
local macro_rules|`(tactic|walk_at "p")=>`(tactic|(with_reducible refine L2.U0 ?_))
local macro_rules|`(tactic|walk_at "p")=>`(tactic|(with_reducible refine L2.yK ?_))
local macro_rules|`(tactic|walk_at "p")=>`(tactic|(with_reducible refine L2.ES ?_))
local macro_rules|`(tactic|walk_at "p")=>`(tactic|(with_reducible refine L2.AY ?_))
local macro_rules|`(tactic|walk_at "q")=>`(tactic|(with_reducible refine L2.U1 ?_))
local macro_rules|`(tactic|walk_at "q")=>`(tactic|(walk_at "p"))
local macro_rules|`(tactic|walk_at "x")=>`(tactic|((with_reducible apply L2.dY);(walk_at "hf");(exact rfl)))
local macro_rules|`(tactic|walk_at "x")=>`(tactic|((with_reducible apply L2.jk);(walk_at "hf");(exact rfl)))
local macro_rules|`(tactic|walk_at "r")=>`(tactic|(walk_at "x"))
local macro_rules|`(tactic|walk_at "r")=>`(tactic|(walk_at "q"))
local macro_rules|`(tactic| walk_at "v") => `(tactic| repeat walk_at "q")
local macro_rules|`(tactic| walk_at "j") => `(tactic| repeat (first|(walk_at "p")|(walk_at "x")))
local macro_rules|`(tactic| walk_at "sz") => `(tactic| first|exact L2.bJ aaa|decide|exact L2.bJ (by simp only [PySem.strLen_append];lia)|assumption)
local macro_rules|`(tactic|walk_at "p")=>`(tactic|(with_reducible refine L2.V2 ?_))
local macro_rules|`(tactic|walk_at "p")=>`(tactic|(with_reducible refine L2.V1 ?_))
local macro_rules|`(tactic|walk_at "p")=>`(tactic|(with_reducible refine L2.RM ?_))
local macro_rules|`(tactic|walk_at "p")=>`(tactic|(with_reducible refine L2.Nq ?_))
local macro_rules|`(tactic|walk_at "p")=>`(tactic|((with_reducible refine L2.VW ?_ ?_);(walk_at "sz")))
local macro_rules|`(tactic|walk_at "p")=>`(tactic|(with_reducible refine L2.VX ?_))
local macro_rules|`(tactic|walk_at "p")=>`(tactic|((with_reducible refine L2.fb ?_ ?_);(walk_at "sz")))
local macro_rules|`(tactic|walk_at "p")=>`(tactic|((with_reducible refine L2.RL ?_ ?_);(walk_at "sz")))
local macro_rules|`(tactic|walk_at "p")=>`(tactic|(with_reducible refine L2.VV ?_))
local macro_rules|`(tactic|walk_at "p")=>`(tactic|(with_reducible refine L2.RK ?_))
local macro_rules|`(tactic|walk_at "p")=>`(tactic|((with_reducible refine L2.RN ?_ ?_);(exact aa2 rfl);intro p_ H_ n_ s_ m_))
local macro_rules|`(tactic| walk_at "p") => `(tactic| ((with_reducible apply DV);(walk_at "hf");(first|decide|lia)))
local macro_rules|`(tactic| walk_at "w") => `(tactic| repeat walk_at "r")
local macro_rules|`(tactic| left) => `(tactic| walk_at "w")
theorem u0:ao ["text","most"] ["text","most"] (al gS):=⟨rfl,rfl,rfl,TH,rfl,TH,TH⟩
theorem wU:ao ["numbers","found","number","other","left"] ["numbers"] (al iT):=⟨rfl,rfl,rfl,TH,rfl,TH,TH⟩
theorem B0:ao ["thing"] ["thing"] (al mi):=⟨rfl,rfl,rfl,TH,rfl,TH,TH⟩
theorem N1:ao ["one","other"] ["one","other"] (al Dr):=⟨rfl,rfl,rfl,TH,rfl,TH,TH⟩
theorem Lf:ao ["row","n"] ["row","n"] (al y6):=⟨rfl,rfl,rfl,TH,rfl,TH,TH⟩
theorem u4:ao ["number","prime","count","left"] ["number","prime"] (al gT):=⟨rfl,rfl,rfl,TH,rfl,TH,TH⟩
theorem og:ao ["commas"] ["commas"] (al eC):=⟨rfl,rfl,rfl,TH,rfl,TH,TH⟩
theorem N2:ao ["place","size"] ["place","size"] (al Dt):=⟨rfl,rfl,rfl,TH,rfl,TH,TH⟩
theorem wV:ao ["row"] ["row"] (al iU):=⟨rfl,rfl,rfl,TH,rfl,TH,TH⟩
theorem Lg:ao ["weights","row"] ["weights","row"] (al y9):=⟨rfl,rfl,rfl,TH,rfl,TH,TH⟩
theorem rW:ao ["keys","key"] ["keys"] (al fS):=⟨rfl,rfl,rfl,TH,rfl,TH,TH⟩
theorem zD:ao ["truth"] ["truth"] (al jK):=⟨rfl,rfl,rfl,TH,rfl,TH,TH⟩
theorem B1:ao ["_law_script","_law_k"] ["_law_script","_law_k"] (al mC):=⟨rfl,rfl,rfl,TH,rfl,TH,TH⟩
theorem B2:ao ["_law_one","_law_q","_law_other"] ["_law_one","_law_q","_law_other"] (al mD):=⟨rfl,rfl,rfl,TH,rfl,TH,TH⟩
theorem zE:ao ["_law_key","_law_row","_law_total"] ["_law_key","_law_row"] (al jL):=⟨rfl,rfl,rfl,TH,rfl,TH,TH⟩
theorem rX:ao ["_law_row","_law_top","_law_bottom","_law_prime","_law_n","_law_k"] ["_law_row"] (al fV):=⟨rfl,rfl,rfl,TH,rfl,TH,TH⟩
theorem zF:ao ["_law_e","_law_some","_law_words"] ["_law_e"] (al jM):=⟨rfl,rfl,rfl,TH,rfl,TH,TH⟩
theorem B3:ao ["_law_cell_here","_law_found","_law_prime"] ["_law_cell_here"] (al mG):=⟨rfl,rfl,rfl,TH,rfl,TH,TH⟩
theorem u5:ao ["_law_cell_here","_law_found","_law_prime"] ["_law_cell_here"] (al gZ):=⟨rfl,rfl,rfl,TH,rfl,TH,TH⟩
theorem zG:ao ["self"] ["self"] (al cO):=⟨rfl,rfl,rfl,TH,rfl,TH,TH⟩
theorem zH:ao ["text","most"] ["text","most"] (al jI):=⟨rfl,rfl,rfl,TH,rfl,TH,TH⟩
theorem wW:ao ["text","most","parts"] ["text","most"] (al iS):=⟨rfl,rfl,rfl,TH,rfl,TH,TH⟩
theorem G5:ao ["thing"] ["thing"] (al ua):=⟨rfl,rfl,rfl,TH,rfl,TH,TH⟩
theorem B4:ao ["number","powers","left","prime","found"] ["number"] (al mj):=⟨rfl,rfl,rfl,TH,rfl,TH,TH⟩
theorem Lh:ao ["key","row","total"] ["key","row"] (al zc):=⟨rfl,rfl,rfl,TH,rfl,TH,TH⟩
theorem B5:ao ["steps","rows","step"] ["steps"] (al my):=⟨rfl,rfl,rfl,TH,rfl,TH,TH⟩
theorem lG:ao ["steps","product","step"] ["steps"] (al dG):=⟨rfl,rfl,rfl,TH,rfl,TH,TH⟩
theorem u6:ao ["rows","place","whole","weights","here","row","wanted"] ["rows","place","whole"] (al gU):=⟨rfl,rfl,rfl,TH,rfl,TH,TH⟩
theorem B6:ao ["desk","row","ring"] ["desk","row","ring"] (al mB):=⟨rfl,rfl,rfl,TH,rfl,TH,TH⟩
theorem DW:ao ["_law_powers","_law_rows","_law_total","_law_k"] ["_law_powers","_law_rows"] (al pj):=⟨rfl,rfl,rfl,TH,rfl,TH,TH⟩
theorem DX:ao ["thing"] ["thing"] (al o7):=⟨rfl,rfl,rfl,TH,rfl,TH,TH⟩
theorem G6:ao ["top","bottom","above","below"] ["top","bottom"] (al ub):=⟨rfl,rfl,rfl,TH,rfl,TH,TH⟩
theorem G7:ao ["keys","row"] ["keys","row"] (al ud):=⟨rfl,rfl,rfl,TH,rfl,TH,TH⟩
theorem wX:ao ["line","words","count"] ["line"] (al iW):=⟨rfl,rfl,rfl,TH,rfl,TH,TH⟩
theorem wY:ao ["desk","words"] ["desk","words"] (al iX):=⟨rfl,rfl,rfl,TH,rfl,TH,TH⟩
theorem u7:ao ["desk","words"] ["desk","words"] (al gX):=⟨rfl,rfl,rfl,TH,rfl,TH,TH⟩
theorem mR:ao ["_law_commas","_law_span_here","_law_found","_law_key"] ["_law_commas","_law_span_here","_law_found"] (al d7):=⟨rfl,rfl,rfl,TH,rfl,TH,TH⟩
theorem DY:ao ["row"] ["row"] (al o8):=⟨rfl,rfl,rfl,TH,rfl,TH,TH⟩
theorem u9:ao ["commas","keys","place","comma"] ["commas","keys"] (al gW):=⟨rfl,rfl,rfl,TH,rfl,TH,TH⟩
theorem zI:ao ["text","parts"] ["text"] (al jJ):=⟨rfl,rfl,rfl,TH,rfl,TH,TH⟩
theorem rY:ao ["desk","words","span"] ["desk","words"] (al fT):=⟨rfl,rfl,rfl,TH,rfl,TH,TH⟩
theorem rZ:ao ["desk","words"] ["desk","words"] (al fU):=⟨rfl,rfl,rfl,TH,rfl,TH,TH⟩
theorem DZ:ao ["vector","step","place"] ["vector","step","place"] (al o9):=⟨rfl,rfl,rfl,TH,rfl,TH,TH⟩
theorem G8:ao ["weights","ring","divisor","row"] ["weights","ring"] (al uc):=⟨rfl,rfl,rfl,TH,rfl,TH,TH⟩
theorem G9:ao ["vectors","place","led","others","least","left"] ["vectors","place"] (al fQ):=⟨rfl,rfl,rfl,TH,rfl,TH,TH⟩
theorem D3:ao ["steps","vector","left","step"] ["steps","vector"] (al ph):=⟨rfl,rfl,rfl,TH,rfl,TH,TH⟩
theorem pN:ao ["steps","rows","whole","leads","keys"] ["steps"] (al fe):=⟨rfl,rfl,rfl,TH,rfl,TH,TH⟩
theorem D4:ao ["vectors","size","steps","left","place","parts","lead"] ["vectors","size"] (al pe):=⟨rfl,rfl,rfl,TH,rfl,TH,TH⟩
theorem r6:ao ["commas","checked","marked"] ["commas"] (al fR):=⟨rfl,rfl,rfl,TH,rfl,TH,TH⟩
theorem Li:ao ["commas"] ["commas"] (al y8):=⟨rfl,rfl,rfl,TH,rfl,TH,TH⟩
theorem wZ:ao ["rows","key","valued"] ["rows","key"] (al iV):=⟨rfl,rfl,rfl,TH,rfl,TH,TH⟩
theorem mS:ao ["commas","row","left"] ["commas","row"] (al d6):=⟨rfl,rfl,rfl,TH,rfl,TH,TH⟩
theorem N3:ao ["keys","found","key"] ["keys"] (al Dv):=⟨rfl,rfl,rfl,TH,rfl,TH,TH⟩
theorem N4:ao ["commas","row"] ["commas","row"] (al Du):=⟨rfl,rfl,rfl,TH,rfl,TH,TH⟩
theorem Lj:ao ["commas","row","found","telling"] ["commas","row"] (al zd):=⟨rfl,rfl,rfl,TH,rfl,TH,TH⟩
theorem N5:ao ["commas","keys","number","shown","row","found"] ["commas","keys"] (al Dw):=⟨rfl,rfl,rfl,TH,rfl,TH,TH⟩
theorem oh:ao ["desk","words"] ["desk","words"] (al eD):=⟨rfl,rfl,rfl,TH,rfl,TH,TH⟩
theorem vb:ao ["desk","words","found"] ["desk","words"] (al gY):=⟨rfl,rfl,rfl,TH,rfl,TH,TH⟩
theorem r8:ao ["_law_commas","_law_keys","_law_k"] ["_law_commas","_law_keys"] (al fW):=⟨rfl,rfl,rfl,TH,rfl,TH,TH⟩
theorem zJ:ao ["self","line","words","answer"] ["self","line"] (al cP):=⟨rfl,rfl,rfl,TH,rfl,TH,TH⟩
theorem B7:ao ["_law_desk","_law_line","_law_refusal","_law_found","_law_e"] ["_law_desk","_law_line"] (al mE):=⟨rfl,rfl,rfl,TH,rfl,TH,TH⟩
theorem B8:ao ["_law_desk","_law_cell_here","_law_commas","_law_keys","_law_span_here","_law_far","_law_found","_law_ring","_law_line","_law_key"] ["_law_desk","_law_cell_here","_law_commas","_law_keys"] (al mH):=⟨rfl,rfl,rfl,TH,rfl,TH,TH⟩
theorem zK:ao ["_law_desk","_law_cell_here","_law_commas","_law_keys","_law_span_here","_law_due"] ["_law_desk","_law_cell_here","_law_commas","_law_keys"] (al jN):=⟨rfl,rfl,rfl,TH,rfl,TH,TH⟩
theorem Sj:ao ["_law_script","_law_desk","_law_commas","_law_keys","_law_cell_here","_law_right"] ["_law_script"] (al nR):=⟨rfl,rfl,rfl,TH,rfl,TH,TH⟩
section
variable {P:Program}{w:World}{K:Frag}{mg:Str->Option Value}{base:Heap}{G:Adr}
variable (T:Txt P w K mg base G)
include T
theorem j4:Ok P w K mg base 1 "is_counting" ["text","most"] (uN K):=by
 have S:=u0
 refine T.wC.lD S fun f bf A outer s H vs Q E hr h=>?_
 obtain @⟨z,m,hz,k⟩:=h
 refine⟨_,(ag (bj (PW.pt (qf (eW (Ia Ek Ek ah (ax Dl rfl T.cL PySem.boot_len (aa (pv 0) af)) (pv 1))) (lU (ptr bI (xu Iq (pv 0) ah (fun _ _=>rfl)) aG)))) (ai (au jx)) aK) (ai (au (ax (mf K rfl rfl) rfl T.uD boot_all (aa (kP ["figure"] [none] (RH (pv 0)) (fun _ _ _ _ _=>(aq (i:=0) (nd ["figure"]) rfl (Or.inl rfl))) (fun _ _ _ _ _=>rfl) (fun _ _ _ _ _=>(Em RJ (pv 0) aG (by with_unfolding_all rfl)))) af))))),?_⟩
 left
 by_cases h1:1<=z.length
 ·rw [if_pos (aan aaa)]
  left
  by_cases h2:z.length<=m
  ·rw [if_neg (by rw [aan (show (z.length:Int)<=(m:Int) by lia)];decide)]
   left
   obtain ⟨c,hc⟩:=bz.YV h1
   refine VY (bJ aaa) (aX (j:=0) (by rw [Array.getElem?_toList];exact hc)) ?_
   left
   rw [bz.str0]
   by_cases h3:c=48
   ·rw [if_pos (aan (by rw [h3]))]
    left
    rw [bz.tO (by rw [hc,h3])] at k
    exact k _ (aj.refl _)
   ·rw [if_neg (by rw [aam (fun e=>h3 (bz.MH.mp e))];decide)]
    left
    refine Kg _ (fun i=>V.bl (bz.F1 ((z.cps[i]?).getD 0))) rfl hz (fun i d H' Qc hd s1 kc=>?_) (fun l H' hl s1 m1=>?_)
    ·left
     rw [bz.UR,bz.F2]
     have:=kc _ (aj.refl _)
     rw [hd] at this
     exact this
    ·left
     refine tX (bs:=(List.range z.cps.size).map fun i=>bz.F1 ((z.cps[i]?).getD 0)) (aP.of (by rw [aaS];exact m1)) ?_
     rw [bz.all_range,<- bz.MI h1 h2 hc h3]
     exact k _ s1
  ·rw [if_pos (by rw [aam (show ¬ (z.length:Int)<=(m:Int) by lia)];rfl)]
   left
   rw [bz.Jo h2] at k
   exact k _ (aj.refl _)
 ·rw [if_neg (by rw [aam (show ¬ (1:Int)<=z.length by lia)];decide)]
  left
  rw [bz.xI h1] at k
  exact k _ (aj.refl _)
theorem w8:Ok P w K mg base 1 "divisor_of" ["numbers"] (wL K):=by
 have S:=wU
 refine T.zm.lD S fun f bf A outer s H vs Q E hr h=>?_
 obtain @⟨a,zs,ha,k⟩:=h
 refine⟨_,(ag (cy 1 S.nd ah) (ag (ck PassesOwn.never rfl (cW K rfl (pv 0)) (aq (i:=2) S.nd rfl (Or.inl rfl)) (ag (cy 3 S.nd (ax oU rfl T.KS boot_abs (aa (pv 2) af))) (ai (sX PassesOwn.never (ptr gu (pv 3) ah) (ag (cy 4 S.nd (aA bE (pv 1) (pv 3))) (ag (cy 1 S.nd (pv 3)) (ai (cy 3 S.nd (pv 4))))))))) (ai (au (pv 1))))),?_⟩
 left
 refine Q2 ha (fun i σ=>∃ o1 o2 o3,σ=[some (.ref a),some (.int (lE (zs.take i):Nat)),o1,o2,o3]) ⟨_,_,_,rfl⟩ (fun i x σ hx hp=>?_) (fun σ hp=>?_)
 ·obtain ⟨o1,o2,o3,rfl⟩:=hp
  obtain ⟨rfl,hi⟩:=dW hx
  have Wj:zs[i]?=some (zs.getD i 0):=by rw [List.getD,aat hi];rfl
  generalize zs.getD i 0=z at Wj
  left
  have ez:(if z<0 then -z else z)=((z.natAbs:Nat):Int):=by split <;> lia
  rw [ez]
  have XE:Nat.gcd (lE (zs.take i)) z.natAbs=lE (zs.take (i+1)):=by rw [take_snoc Wj,GG]
  refine yM (fun m σ' H'=>∃ (f:Nat) (o:Option V),σ'=[some (.ref a),some (.int f),some (.int z),some (.int m),o]/\H'=H/\Nat.gcd f m=lE (zs.take (i+1))) z.natAbs ⟨_,_,rfl,rfl,XE⟩ (fun m σ' H' hw=>?_)
  obtain ⟨f,o,rfl,rfl,hg⟩:=hw
  left
  refine aW (fun hc=>?_) (fun hc=>?_)
  ·have hm:0<m:=by simp at hc;lia
   refine Q1 ?_
   left
   refine⟨f % m,mod_lt _ hm,m,_,by rw [Int.natCast_emod] <;> rfl,rfl,?_⟩
   rw [AE]
   exact hg
  ·have hm:m=0:=by simp at hc;lia
   subst hm
   rw [Nat.gcd_zero_right] at hg
   subst hg
   exact⟨⟨_,_,_,rfl⟩,rfl⟩
 ·obtain ⟨o1,o2,o3,rfl⟩:=hp
  rw [aaz,aaN]
  left
  exact k
theorem B9:Ok P w K mg base 1 "is_whole" ["thing"] (qI K):=by
 have S:=B0
 refine T.DF.ok S (fun vs H Q E h=>?_) (fun f bf A outer s H vs Q E hr h=>?_)
 ·obtain ⟨_,rfl,_⟩:=h;rfl
 ·obtain ⟨v,rfl,hv,k⟩:=h
  refine⟨_,(ai (au (Co (ax (oV K rfl) rfl T.aQ boot_isinstance (aa (pv 0) (aa (sy (v:=V.ty "int") rfl T.qG boot_int rfl) af))) (Cn (Pp (ax (oV K rfl) rfl T.aQ boot_isinstance (aa (pv 0) (aa (sy (v:=V.ty "bool") rfl T.R7 boot_bool rfl) af)))))))),?_⟩
  rcases hv with ⟨i,rfl⟩|⟨b,rfl⟩|rfl|⟨s,rfl⟩|⟨a,xs,rfl,hs⟩|⟨a,xs,rfl,hs⟩
  ·left
   refine FI ?_
   left
   exact k
  ·left
   refine FI ?_
   left
   exact k
  all_goals
   left
   refine Iy ?_
   left
   exact k
theorem Fo:Ok P w K mg base 1 "over" ["one","other"] (Fj K):=by
 have S:=N1
 refine T.Sa.ok S (fun vs H Q E h=>?_) (fun f bf A outer s H vs Q E hr h=>?_)
 ·obtain ⟨_,_,_,_,rfl,_⟩:=h;rfl
 ·obtain ⟨a,b,r,q,rfl,ha,hb,hl,hn,k⟩:=h
  refine⟨_,(ai (au (aB (cc K rfl) rfl T.cC boot_tuple (aa (kP ["number","taken"] [none,none] (iy K rfl true true rfl T.xY (aa (pv 0) (aa (pv 1) af))) (fun _ _ _ _ _=>(eM (n:=2) K rfl rfl (bq (aq (i:=0) (nd ["number","taken"]) rfl (Or.inl rfl)) (bq (aq (i:=1) (nd ["number","taken"]) rfl (Or.inl rfl)) eI)))) (fun _ _ _ _ _=>rfl) (fun _ _ _ _ _=>(aA lW (pv 0) (pv 1)))) af)))),?_⟩
  left
  refine CL (r:=r) (q:=q) (· - ·) rfl ha hb hl hn fun l H1 HI s1 m1=>?_
  left
  rename_i p2 H2 s2 m2
  exact k _ _ (s1.trans s2) m2
theorem Ca:Ok P w K mg base 1 "power" ["row","n"] (BS K):=by
 have S:=Lf
 refine T.NO.ok S (fun vs H Q E h=>?_) (fun f bf A outer s H vs Q E hr h=>?_)
 ·obtain ⟨_,_,_,rfl,_⟩:=h;rfl
 ·obtain ⟨a,r,n,rfl,ha,hn,hm,k⟩:=h
  refine⟨_,(ai (au (aB (cc K rfl) rfl T.cC boot_tuple (aa (kP ["number","n"] [none,some 1] (cW K rfl (pv 0)) (fun _ _ _ _ _=>(aq (i:=0) (nd ["number","n"]) rfl (Or.inl rfl))) (fun _ _ _ _ _=>rfl) (fun _ _ _ _ _=>(aA Np (pv 0) (pv 1)))) af)))),?_⟩
  left
  refine el (r:=r) (fun x=>.int (x*n)) [some (.int n)] rfl ha hn (fun x H' Qc hx s kc=>?_) (fun l H1 hl s1 m1=>?_)
  ·left
   refine Y1 (C:=qv) (hm x hx) ?_
   exact kc _ (aj.refl _)
  left
  rename_i p2 H2 s2 m2
  refine k _ _ (s1.trans s2) ?_
  rw [m2,bH,aaS]
  rfl
theorem vc:Ok P w K mg base 1 "counted_out" ["number","prime"] (uP K):=by
 have S:=u4
 refine T.wD.lD S fun f bf A outer s H vs Q E hr h=>?_
 obtain @⟨n,p,c,m,hp,hn,hm,k⟩:=h
 refine⟨_,(ag (cy 2 S.nd ah) (ag (cy 3 S.nd (pv 0)) (ag (sX PassesOwn.never (ptr bI (aA bE (pv 3) (pv 1)) ah) (ag (cy 3 S.nd (aA eJ (pv 3) (pv 1))) (ai (cy 2 S.nd (aA lV (pv 2) ah))))) (ai (au (bA (aa (pv 2) (aa (pv 3) af)))))))),?_⟩
 have p2:=hp.pos
 have p12:=hp.le
 left
 refine yM (fun mm σ H2=>H2=H/\∃ j:Nat,j<=c/\mm=c - j/\σ=[some (.int n),some (.int p),some (.int j),some (.int (p ^ (c - j)*m))]) c ⟨rfl,0,aa0 _,rfl,?_⟩ (fun mm σ H2 hw=>?_)
 ·rw [sub_zero,<- hn];rfl
 obtain ⟨rfl,j,hj,rfl,rfl⟩:=hw
 left
 refine aW (fun hc=>?_) (fun hc=>?_)
 ·have fk:j<c:=by
   apply Nat.lt_of_le_of_ne hj
   rintro rfl
   rw [sub_self,pow_zero,Int.one_mul] at hc
   exact hm (aak hc)
  have e1:p ^ (c - j)*m=p*(p ^ (c - (j+1))*m):=by
   rw [show c - j=(c - (j+1))+1 by lia,Int.pow_succ];ac_rfl
  have e2:p ^ (c - j)*m / p=p ^ (c - (j+1))*m:=by rw [e1,Int.mul_ediv_cancel_left _ aaa]
  refine Q1 ?_
  left
  rw [e2]
  exact⟨c - (j+1),aaa,rfl,j+1,fk,rfl,rfl⟩
 ·have he:j=c:=by
   apply Nat.le_antisymm hj
   apply Nat.not_lt.mp
   intro fk
   have e1:p ^ (c - j)*m=p*(p ^ (c - (j+1))*m):=by
    rw [show c - j=(c - (j+1))+1 by lia,Int.pow_succ];ac_rfl
   exact aal hc (by rw [e1];exact Int.mul_emod_right _ _)
  subst he
  left
  rename_i q H3 s3 m3
  rw [sub_self,pow_zero,Int.one_mul] at m3
  exact k _ _ s3 m3
theorem cN:A1 P w K mg base 1 "checked_commas" ["commas"] (gF K):=by
 have S:=og
 refine T.pH.F8 S (fun vs H Q E h=>?_) (fun f bf A outer s H vs Q E hr h=>?_)
 ·obtain ⟨_,_,rfl,_⟩:=h;rfl
 ·obtain ⟨l,ys,rfl,hl,kq,ke⟩:=h
  refine⟨_,(ag (bj (ptr El (ax (bQ K rfl) rfl T.cL PySem.boot_len (aa (pv 0) af)) (aH (v:=V.int 6) rfl T.wB ⟨_,rfl⟩)) (ai (fO T.dH.i PySem.F.excBase_ValueError TH PySem.F.excBase_ValueError rfl (fun _ _ z=>z) rfl rfl T.mJ (aa aG af))) aK) (ai (au (pv 0)))),?_⟩
  left
  refine aW (fun h=>?_) (fun h=>?_)
  ·left
   exact⟨aa8,ke (by have:=aak h;lia) _ _ T.dH.ns (aj.refl _)⟩
  left
  exact kq (by have:=aal h;lia)
theorem zL:Ok P w K mg base 1 "unit" ["place","size"] (NU K):=by
 have S:=N2
 refine T.Sb.lD S fun f bf A outer s H vs Q E hr h=>?_
 obtain @⟨p,n,hn,k⟩:=h
 refine⟨_,(ai (au (aB (cc K rfl) rfl T.cC boot_tuple (aa (kP ["here","place"] [none,some 0] (dM rfl T.fo (aa (pv 1) af)) (fun _ _ _ _ _=>(aq (i:=0) (nd ["here","place"]) rfl (Or.inl rfl))) (fun _ _ _ _ _=>rfl) (fun _ _ _ _ _=>(fA (ptr bI (pv 0) (pv 1)) ah ah))) af)))),?_⟩
 left
 refine IF (n:=n) (fun i=>.int (if i=(p:Int) then 1 else 0)) [some (.int p)] rfl aaa (fun i H' Qc hi s kc=>?_) (fun l H1 hl s1 m1=>?_)
 ·left
  refine aW (fun hc=>?_) (fun hc=>?_)
  ·have:=kc _ (aj.refl _)
   rw [if_pos (aak hc)] at this
   left
   exact this
  ·have:=kc _ (aj.refl _)
   rw [if_neg (aal hc)] at this
   left
   exact this
 have e:(List.range n).map (fun (i:Nat)=>V.int (if (i:Int)=(p:Int) then 1 else 0))=(bF p n).map V.int:=by
  rw [bF,aaS]
  refine aaT fun i _=>?_
  simp only [Function.comp_apply,Int.ofNat_inj]
 rw [e] at m1
 left
 rename_i p2 H2 s2 m2
 exact k _ _ (s1.trans s2) m2
theorem eR:Ok P w K mg base 1 "lead_place" ["row"] (wM K):=by
 have S:=wV
 refine T.zo.lD S fun f bf A outer s H vs Q E hr h=>?_
 obtain @⟨a,r,k,ha,hl,hk,kk⟩:=h
 refine⟨_,(ai (au (ax (M5 K rfl rfl) rfl T.Wh boot_max (aa (kP ["place","number"] [none,none] (nK K rfl true rfl T.gD (aa (pv 0) af)) (fun _ _ _ _ _=>(eM (n:=2) K rfl rfl (bq (aq (i:=0) (nd ["place","number"]) rfl (Or.inl rfl)) (bq (aq (i:=1) (nd ["place","number"]) rfl (Or.inl rfl)) eI)))) (fun _ _ _ _ _=>(ptr gu (pv 1) ah)) (fun _ _ _ _ _=>(pv 0))) af)))),?_⟩
 have hkl:k<r.length:=by
  have:=hk.1
  by_cases h:k<r.length
  ·exact h
  ·rw [List.getD,getElem?_eq_none aaa] at this
   exact absurd this aa8
 left
 refine Dh (r:=r) [] (fun i=>r.getD i 0 != 0) rfl ha hl (fun i H' Qt hi s kt=>?_) (fun i H' Qc s kc=>?_) (fun l H1 n1 s1 m1=>?_)
 ·left
  have e:(!decide (r.getD i 0=0))=(r.getD i 0 != 0):=by
   by_cases h:r.getD i 0=0
   ·rw [h];rfl
   ·rw [aam h,bne_iff_ne.mpr h];rfl
  rw [e]
  exact kt
 ·left
  exact kc
 left
 have iK:(k:Int)∈((List.range r.length).filter fun i=>r.getD i 0 != 0).map fun (i:Nat)=>(i:Int):=by
  refine aaD.mpr ⟨k,aaE.mpr ⟨aaM.mpr hkl,?_⟩,rfl⟩
  have:=hk.1
  exact bne_iff_ne.mpr aaa
 refine Rq (aP.of m1) (fun z=>by rw [z] at iK;simp at iK) fun m hm hx=>?_
 have e:m=k:=by
  have h1:=hx _ iK
  obtain ⟨j,hj,rfl⟩:=aaD.mp hm
  have h2:=(aaE.mp hj).2
  by_cases c:k<j
  ·rw [hk.2 j c] at h2
   exact absurd h2 aa8
  ·lia
 rw [e]
 exact kk _ s1
theorem Cb:Ok P w K mg base 1 "heard" ["weights","row"] (uS K):=by
 have S:=Lg
 refine T.NQ.ok S (fun vs H Q E h=>?_) (fun f bf A outer s H vs Q E hr h=>?_)
 ·obtain ⟨_,_,_,_,_,rfl,_⟩:=h;rfl
 ·obtain ⟨w,r,kk,ws,rs,rfl,hw,ZX,hl,hn,hm,k⟩:=h
  refine⟨_,(ai (au (ax (JX K rfl rfl) rfl T.Pc boot_sum (aa (kP ["number","weight"] [none,none] (iy K rfl true kk rfl T.xY (aa (pv 1) (aa (pv 0) af))) (fun _ _ _ _ _=>(eM (n:=2) K rfl rfl (bq (aq (i:=0) (nd ["number","weight"]) rfl (Or.inl rfl)) (bq (aq (i:=1) (nd ["number","weight"]) rfl (Or.inl rfl)) eI)))) (fun _ _ _ _ _=>rfl) (fun _ _ _ _ _=>(aA yt (pv 0) (pv 1)))) af)))),?_⟩
  left
  refine Nn (r:=rs) (q:=ws) rfl (gR ZX) hw hl hn hm fun l H1 HI s1 m1=>?_
  left
  refine OQ (aP.of m1) ?_
  exact k _ s1
theorem dB:A1 P w K mg base 1 "checked_keys" ["keys"] (jn K):=by
 have S:=rW
 refine T.uI.okP S (fun vs H Q E h=>?_) (fun f bf A outer s H vs Q E hr h=>?_)
 ·obtain ⟨_,_,_,rfl,_⟩:=h;rfl
 ·obtain ⟨l,xs,ks,rfl,hl,hk,kq,ke⟩:=h
  refine⟨_,(ag (bj (ptr El (ax (bQ K rfl) rfl T.cL PySem.boot_len (aa (pv 0) af)) (aH (v:=V.int 6) rfl T.BH ⟨_,rfl⟩)) (ai (fO T.dw.i PySem.F.excBase_ValueError TH PySem.F.excBase_ValueError rfl (fun _ _ z=>.inl z) rfl rfl T.nU (aa aG af))) aK) (ag (ck (Gi rfl rfl rfl) rfl (aR K rfl (pv 0)) (aq (i:=1) S.nd rfl (Or.inl rfl)) (ai (bj (PW.pt (qf (ptr qg (cX K (pv 1) ah) ah) (lU (ptr bI (cX K (pv 1) ah) ah)))) (ai (fO T.dw.i PySem.F.excBase_ValueError TH PySem.F.excBase_ValueError rfl (fun _ _ z=>.inl z) rfl rfl T.nU (aa aG af))) aK))) (ai (au (pv 0))))),?_⟩
  have lk:=hk.length
  left
  refine aW (fun h6=>?_) (fun h6=>?_)
  ·left
   exact⟨aa8,ke (fun z=>by have:=z.1;have:=aak h6;lia) _ _ T.dw.ns (aj.refl _)⟩
  have ZY:ks.length<=6:=by have:=aal h6;lia
  left
  refine jF (xs:=xs) (fun i σ H2=>∃ o:Option V,σ=[some (.ref l),o]/\H2=H/\∀ k∈ks.take i,k.2=0\/2<=k.2) ⟨_,rfl,rfl,by simp⟩ (fun i σ H2 hp=>by obtain ⟨o,rfl,rfl,_⟩:=hp;exact hl) (fun i x σ H2 hx hp=>?_) (fun σ H2 hp=>?_)
  ·obtain ⟨o,rfl,rfl,hp⟩:=hp
   obtain ⟨a,w,kk,rfl,h1,h2,h3⟩:=hk.get hx
   left
   refine aW (fun h7=>?_) (fun h7=>?_)
   ·left
    exact⟨aa8,ke (fun z=>by have:=z.2 kk (aay h3);have:=aak h7;lia) _ _ T.dw.ns (aj.refl _)⟩
   left
   refine aW (fun h8=>?_) (fun h8=>?_)
   ·left
    exact⟨aa8,ke (fun z=>by have:=z.2 kk (aay h3);have:=aak h8;lia) _ _ T.dw.ns (aj.refl _)⟩
   refine⟨_,rfl,rfl,fun q hq=>?_⟩
   rw [take_snoc h3] at hq
   rcases aax.mp hq with z|z
   ·exact hp q z
   ·rw [aaw.mp z]
    have:=aal h7
    have:=aal h8
    lia
  obtain ⟨o,rfl,rfl,hp⟩:=hp
  rw [<- lk,aaN] at hp
  left
  exact kq ⟨ZY,hp⟩
theorem zM:Ok P w K mg base 1 "yes_or_no" ["truth"] (zw K):=by
 have S:=zD
 refine T.BN.lD S fun f bf A outer s H vs Q E hr h=>?_
 obtain @⟨b,k⟩:=h
 refine⟨_,(ai (au (fA (dC (pv 0)) aG aG))),?_⟩
 left
 cases b
 ·refine bZ rfl ?_
  left
  exact k
 ·refine jl rfl ?_
  left
  exact k
theorem Cc:Ok P w K mg base 1 "_law_cell" ["_law_script","_law_k"] (qJ K):=by
 have S:=B1
 refine T.DJ.ok S (fun vs H Q E h=>?_) (fun f bf A outer s H vs Q E hr h=>?_)
 ·obtain ⟨_,_,_,rfl,_⟩:=h;rfl
 ·obtain ⟨a,ns,k,rfl,hs,h0,hQ⟩:=h
  refine⟨_,(ag (bj (ptr qg (pv 1) (ax (bQ K rfl) rfl T.cL PySem.boot_len (aa (pv 0) af))) (ai (au (cX K (pv 0) (pv 1)))) aK) (ai (au ah))),?_⟩
  left
  refine aW (fun hc=>?_) (fun hc=>?_)
  ·have fk:k.toNat<ns.length:=by simp at hc;lia
   obtain ⟨j,rfl⟩:=eq_ofNat_of_zero_le h0
   repeat walk_at "r"
   exact dY hs (aX (int_at (by simpa using fk))) hQ
  ·have OF:ns.length<=k.toNat:=by simp at hc;lia
   have e:ns.getD k.toNat 0=0:=by rw [List.getD,getElem?_eq_none OF];rfl
   rw [e] at hQ
   left
   exact hQ
theorem qN:Ok P w K mg base 1 "_law_plus" ["_law_one","_law_q","_law_other"] (qK K):=by
 have S:=B2
 refine T.DK.ok S (fun vs H Q E h=>?_) (fun f bf A outer s H vs Q E hr h=>?_)
 ·obtain ⟨_,_,_,_,_,rfl,_⟩:=h;rfl
 ·obtain ⟨a,b,n,r,q,rfl,ha,hb,hl,h1,hm,k⟩:=h
  refine⟨_,(ai (au (aB (cc K rfl) rfl T.cC boot_tuple (aa (kP ["_law_a","_law_b","_law_q"] [none,none,some 1] (iy K rfl true true rfl T.xY (aa (pv 0) (aa (pv 2) af))) (fun _ _ _ _ _=>(eM (n:=2) K rfl rfl (bq (aq (i:=0) (nd ["_law_a","_law_b","_law_q"]) rfl (Or.inl rfl)) (bq (aq (i:=1) (nd ["_law_a","_law_b","_law_q"]) rfl (Or.inl rfl)) eI)))) (fun _ _ _ _ _=>rfl) (fun _ _ _ _ _=>(aA lV (pv 0) (aA Nk (pv 2) (pv 1))))) af)))),?_⟩
  left
  refine nA (k1:=true) (k2:=true) (xs:=r.map V.int) (ys:=q.map V.int) [some (.int n)] (fun i=>.int (r.getD i 0+n*q.getD i 0)) rfl (gR ha) (gR hb) (by simp [hl]) (by simp;lia) (fun i x y H2 Qc hx hy s kc=>?_) (fun l H2 HI s m=>?_)
  ·obtain ⟨rfl,hi⟩:=dW hx
   obtain ⟨rfl,hj⟩:=dW hy
   have hmi:=hm (q.getD i 0) (getD_mem hj)
   left
   exact kc _ (aj.refl _)
  rw [GD hl] at m
  left
  rename_i p3 H3 s3 m3
  exact k _ _ (s.trans s3) (aC.of m3)
theorem fu:Ok P w K mg base 1 "_law_value" ["_law_key","_law_row"] (zx K):=by
 have S:=zE
 refine T.BO.lD S fun f bf A outer s H vs Q E hr h=>?_
 obtain @⟨kt,w,a,m,ws,row,⟨hk,hw,ha,lw,jv,hm,hwf,ZZ⟩,k⟩:=h
 refine⟨_,(ag (cy 2 S.nd (ax (JX K rfl rfl) rfl T.Pc boot_sum (aa (kP ["_law_a","_law_b"] [none,none] (iy K rfl true true rfl T.xY (aa (cX K (pv 0) ah) (aa (pv 1) af))) (fun _ _ _ _ _=>(eM (n:=2) K rfl rfl (bq (aq (i:=0) (nd ["_law_a","_law_b"]) rfl (Or.inl rfl)) (bq (aq (i:=1) (nd ["_law_a","_law_b"]) rfl (Or.inl rfl)) eI)))) (fun _ _ _ _ _=>rfl) (fun _ _ _ _ _=>(aA yt (pv 0) (pv 1)))) af))) (ag (bj (ptr gu (cX K (pv 0) ah) ah) (ai (cy 2 S.nd (aA bE (pv 2) (cX K (pv 0) ah)))) aK) (ai (au (pv 2))))),?_⟩
 left
 refine M6 (r:=ws) (q:=row) rfl (gR hw) (gR ha) aaa aaa (ue.mul hwf ZZ aa8 aaa) fun l3 H3 n3 s3 m3=>?_
 have ed:(List.zipWith (·*·) ws row).sum=dot row ws:=iL ws row
 left
 refine OQ (aP.of m3) ?_
 rw [ed]
 have hk3:=s3.at hk
 left
 refine aW (fun h4=>?_) (fun h4=>?_)
 ·have Z0:m≠0:=by simpa using h4
  have e:val ws m row=dot row ws % m:=by unfold val;rw [if_neg Z0]
  rw [e] at k
  have Z1:0<m:=by lia
  left
  exact k _ s3
 ·have Z0:m=0:=by simpa using h4
  have e:val ws m row=dot row ws:=by unfold val;rw [if_pos Z0]
  rw [e] at k
  left
  exact k _ s3
theorem fh:Ok P w K mg base 1 "_law_fraction" ["_law_row"] (rV K):=by
 have S:=rX
 refine T.uL.lD S fun f bf A outer s H vs Q E hr h=>?_
 obtain @⟨a,r,ha,gp,k⟩:=h
 refine⟨_,(ag (cy 1 S.nd ah) (ag (cy 2 S.nd ah) (ag (ck PassesOwn.never rfl (iy K rfl true true rfl T.xY (@aa _ _ _ _ _ (@bA _ _ _ _ _ (aa ah (aa ah (aa ah (aa ah (aa ah af)))))) (@aa _ _ _ _ _ (pv 0) af (by rfl)) (by rfl))) (eM (n:=2) K rfl rfl (bq (aq (i:=3) S.nd rfl (Or.inl rfl)) (bq (aq (i:=4) S.nd rfl (Or.inl rfl)) eI))) (ag (ck PassesOwn.never rfl (dM rfl T.fo (aa (pv 4) af)) (aq (i:=5) S.nd rfl (Or.inl rfl)) (ai (cy 1 S.nd (aA oC (pv 1) (pv 3))))) (ai (ck PassesOwn.never rfl (dM rfl T.fo (aa (xl oF (pv 4)) af)) (aq (i:=5) S.nd rfl (Or.inl rfl)) (ai (cy 2 S.nd (aA oC (pv 2) (pv 3)))))))) (ai (au (aA eO (aA eO (aB b8 rfl T.jm boot_str (aa (pv 1) af)) aG) (aB b8 rfl T.jm boot_str (aa (pv 2) af)))))))),?_⟩
 have fk:=fun (e0 e1 e2 e3 e4:Int) (e:r=[e0,e1,e2,e3,e4])=>Fd (e ▸ gp)
 obtain ⟨e0,e1,e2,e3,e4,rfl,⟨h1,h2⟩,⟨h3,h4⟩,⟨h5,h6⟩,⟨h7,h8⟩,⟨h9,h10⟩⟩:=gp
 have XF:=fk _ _ _ _ _ rfl
 clear fk
 have tp:=jA e0 e1 e2 e3 e4
 have bp:=jB e0 e1 e2 e3 e4
 have ha:aC K H a [.int e0,.int e1,.int e2,.int e3,.int e4]:=ha
 left
 refine Vj (by walk_at "hf") (by walk_at "hf") (by rfl) (fun i σ=>∃ o1 o2 o3,σ=[some (.ref a),some (.int (ED e0 e1 e2 e3 e4 i)),some (.int (ED (0 - e0) (0 - e1) (0 - e2) (0 - e3) (0 - e4) i)),o1,o2,o3]) ⟨_,_,_,rfl⟩ (fun i x y σ H2 hx hy hp s=>?_) (fun σ H2 hp s=>?_)
 ·obtain ⟨o1,o2,o3,rfl⟩:=hp
  have hi:i<5:=by have:=(aad.mp hx).1;simpa using this
  obtain ⟨p,e,rfl,rfl,hp,he,q1,q2⟩:∃ p e:Int,x=.int p/\y=.int e/\(-16<p/\p<16)/\(-18<=e/\e<=18)/\ED e0 e1 e2 e3 e4 (i+1)=ED e0 e1 e2 e3 e4 i*p ^ e.toNat/\ED (0 - e0) (0 - e1) (0 - e2) (0 - e3) (0 - e4) (i+1)=ED (0 - e0) (0 - e1) (0 - e2) (0 - e3) (0 - e4) i*p ^ (0 - e).toNat:=by
   match i,hi with
   | 0,_|1,_|2,_|3,_|4,_ =>
    cases hx
    cases hy
    exact⟨_,_,rfl,rfl,⟨aa8,aa8⟩,⟨aaa,aaa⟩,rfl,rfl⟩
  left
  refine JB (fun j σ=>∃ o4,σ=[some (.ref a),some (.int (ED e0 e1 e2 e3 e4 i*p ^ j)),some (.int (ED (0 - e0) (0 - e1) (0 - e2) (0 - e3) (0 - e4) i)),some (.int p),some (.int e),o4]) ⟨o3,by rw [pow_zero,mul_one] <;> rfl⟩ (fun j σ hj hp=>?_) (fun σ hp=>?_)
  ·obtain ⟨o4,rfl⟩:=hp
   left
   exact⟨⟨_,by rw [Int.pow_succ,<- Int.mul_assoc] <;> rfl⟩,rfl⟩
  obtain ⟨o4,rfl⟩:=hp
  rw [<- q1]
  left
  rw [show -e=0 - e by lia]
  refine JB (fun j σ=>∃ o4,σ=[some (.ref a),some (.int (ED e0 e1 e2 e3 e4 (i+1))),some (.int (ED (0 - e0) (0 - e1) (0 - e2) (0 - e3) (0 - e4) i*p ^ j)),some (.int p),some (.int e),o4]) ⟨o4,by rw [pow_zero,mul_one] <;> rfl⟩ (fun j σ hj hp=>?_) (fun σ hp=>?_)
  ·obtain ⟨o4,rfl⟩:=hp
   left
   exact⟨⟨_,by rw [Int.pow_succ,<- Int.mul_assoc] <;> rfl⟩,rfl⟩
  obtain ⟨o4,rfl⟩:=hp
  rw [<- q2]
  exact⟨⟨_,_,_,rfl⟩,by walk_at "sm"⟩
 obtain ⟨o1,o2,o3,rfl⟩:=hp
 rw [show ([V.int 2,V.int 3,V.int 5,V.int 7,V.int 11]:List V).length=5 from rfl,EE,EF]
 have sF:aj H H2:=by walk_at "sm"
 have k2:=k _ sF
 change Q (.str (bz.lJ (AA e0 e1 e2 e3 e4).toNat++bz.aO++bz.lJ (yu e0 e1 e2 e3 e4).toNat)) H2 at k2
 generalize AA e0 e1 e2 e3 e4=t at *
 generalize yu e0 e1 e2 e3 e4=b at *
 have l1:(bz.lJ t.toNat).length<=60:=bz.eV aa8 (qw XF.1)
 have l2:(bz.lJ b.toNat).length<=60:=bz.eV aa8 (qw XF.2)
 left
 refine eZ (bz.CV (O7 tp XF.1)) ?_
 rw [bz.QE (show 0<=t by lia)]
 left
 refine fb (bJ (show (bz.lJ t.toNat).length+1<=2000 by lia)) ?_
 left
 refine eZ (bz.CV (O7 bp XF.2)) ?_
 rw [bz.QE (show 0<=b by lia),bz.QC]
 left
 refine fb (bJ (show (bz.lJ t.toNat++bz.aO).length+(bz.lJ b.toNat).length<=2000 by rw [PySem.strLen_append];show _+1+_<=_;lia)) ?_
 exact k2
theorem zN:ZD P w K mg base 1 "_law_class" ["_law_e"] (zy K):=by
 have S:=zF
 have Y:=T.Y
 refine T.BQ.okE S (fun vs H Q E h=>?_) (fun f bf A outer s H vs Q E ae Z2 hed hr h=>?_)
 ·obtain @⟨a,C,w,q,ha,hc,k⟩:=h;rfl
 ·obtain @⟨a,C,w,q,ha,hc,k⟩:=h
  refine⟨_,(@ag _ _ _ _ _ (cy 1 S.nd (bP (aa (ax (dF K rfl) rfl T.aQ boot_isinstance (aa (pv 0) (aa (aH (v:=V.ref G.dq) rfl T.uF rfl) af))) (aa (ax (dF K rfl) rfl T.aQ boot_isinstance (aa (pv 0) (aa (aH (v:=V.ref G.dr) rfl T.jV rfl) af))) (aa (ax (dF K rfl) rfl T.aQ boot_isinstance (aa (pv 0) (aa (aH (v:=V.ref G.uy) rfl T.KZ rfl) af))) (aa (ax (dF K rfl) rfl T.aQ boot_isinstance (aa (pv 0) (aa (aH (v:=V.ref G.cp) rfl T.mJ rfl) af))) af)))))) (@ag _ _ _ _ _ (cy 1 S.nd (aA gQ (pv 1) (bP (aa (ax (dF K rfl) rfl T.aQ boot_isinstance (aa (pv 0) (aa (aH (v:=V.ref G.du) rfl T.nU rfl) af))) (aa (ax (dF K rfl) rfl T.aQ boot_isinstance (aa (pv 0) (aa (aH (v:=V.ref G.pB) rfl T.GO rfl) af))) (aa (ax (dF K rfl) rfl T.aQ boot_isinstance (aa (pv 0) (aa (aH (v:=V.ref G.uz) rfl T.K0 rfl) af))) (aa (ax (dF K rfl) rfl T.aQ boot_isinstance (aa (pv 0) (aa (aH (v:=V.ref G.uA) rfl T.K1 rfl) af))) af))))))) (@ag _ _ _ _ _ (cy 1 S.nd (aA gQ (pv 1) (bP (aa (ax (dF K rfl) rfl T.aQ boot_isinstance (aa (pv 0) (aa (aH (v:=V.ref G.pC) rfl T.GP rfl) af))) (aa (ax (dF K rfl) rfl T.aQ boot_isinstance (aa (pv 0) (aa (aH (v:=V.ref G.pD) rfl T.GQ rfl) af))) (aa (ax (dF K rfl) rfl T.aQ boot_isinstance (aa (pv 0) (aa (aH (v:=V.ref G.pE) rfl T.GR rfl) af))) af)))))) (@ag _ _ _ _ _ (cy 1 S.nd (aA gQ (pv 1) (bP (aa (ax (dF K rfl) rfl T.aQ boot_isinstance (aa (pv 0) (aa (aH (v:=V.ref G.uB) rfl T.K2 rfl) af))) (aa (ax (dF K rfl) rfl T.aQ boot_isinstance (aa (pv 0) (aa (aH (v:=V.ref G.uC) rfl T.K3 rfl) af))) (aa (ax (dF K rfl) rfl T.aQ boot_isinstance (@aa _ _ _ _ _ (pv 0) (@aa _ _ _ _ _ (@bA _ _ _ _ _ (aa (aH (v:=V.ref G.kT) rfl T.GS rfl) (aa (aH (v:=V.ref G.iZ) rfl T.DE rfl) af))) af (by rfl)) (by rfl))) af)))))) (@ag _ _ _ _ _ (bj (PW.pt (qf (eW (dC (ax (dF K rfl) rfl T.aQ boot_isinstance (aa (pv 0) (aa (sy (v:=V.ty "ValueError") rfl T.zk L2.rO rfl) af))))) (lU (ptr gu (ax (bQ K rfl) rfl T.cL PySem.boot_len (aa (Au (ok:=fun Y=>Y.A.handled=some (.ref ae)) (N:=["_law_one"]) (ix:=[none]) (fun _ _ _ _ _=>Z2) (GB K rfl ae (pv 1)) (fun _ _ _ _ _=>(aq (i:=0) (nd ["_law_one"]) rfl (Or.inl rfl))) (fun _ _ _ _ _=>(dC (pv 0))) (fun _ _ _ _ _=>(pv 0)) rfl TH TH rfl True.intro) af)) ah)))) (ai (au aG)) aK) (@ag _ _ _ _ _ (@eX _ _ 2 _ _ _ _ S.nd rfl (Or.inl rfl) (@E6 _ _ _ _ (by rfl)) (by rfl) (by first|exact .inl rfl|exact .inr rfl|assumption)) (@ag _ _ _ _ _ (@eX _ _ 2 _ _ _ _ S.nd rfl (Or.inl rfl) (@aA _ _ _ _ _ _ _ _ gQ (pv 2) (@E6 _ _ _ _ (by rfl))) (by rfl) (by first|exact .inl rfl|exact .inr rfl|assumption)) (ai (au (cX K (pv 2) (fC PySem.F.plainAttrs_list PySem.F.slot_list_index PySem.F.type_list_index (Dm K rfl hr.units) (pv 1) (aa jx af)))))))))))),?_⟩
  obtain ⟨i,hi,hi4,W,hv,hw⟩:∃ i:Nat,[G.dq,G.dr,G.cp,G.du][i]?=some C/\i<4/\rM K C/\subIn K (.ref C) (.type "ValueError")=some true/\([("TooFar":Str),"NoSpan","NoCommas","NoKeys"]:List Str)[i]?=some w:=by
   rcases hc with ⟨hw,rfl⟩|⟨hw,rfl⟩|⟨hw,rfl⟩|⟨hw,rfl⟩
   ·obtain rfl:C=G.dq:=by rw [Nm,T.fZ.ns] at hw;cases hw;rfl
    exact⟨0,rfl,aa8,T.fZ.x,T.fZ.v,rfl⟩
   ·obtain rfl:C=G.dr:=by rw [Nm,T.cH.ns] at hw;cases hw;rfl
    exact⟨1,rfl,aa8,T.cH.x,T.cH.v,rfl⟩
   ·obtain rfl:C=G.cp:=by rw [Nm,T.dH.ns] at hw;cases hw;rfl
    exact⟨2,rfl,aa8,T.dH.x,T.dH.v,rfl⟩
   ·obtain rfl:C=G.du:=by rw [Nm,T.dw.ns] at hw;cases hw;rfl
    exact⟨3,rfl,aa8,T.dw.x,T.dw.v,rfl⟩
  have h:=fun j d hd=>Nw T.st_ i hi j (d:=d) hd
  clear hc
  left
  refine eA W ha (h 0 _ rfl) ?_
  left
  refine eA W ha (h 1 _ rfl) ?_
  left
  refine eA W ha (h 4 _ rfl) ?_
  left
  refine eA W ha (h 2 _ rfl) ?_
  left
  rename_i p1 H1 n1 s1 m1
  have GA:=s1 _ _ ha
  refine eA W GA (h 3 _ rfl) ?_
  left
  refine eA W GA (h 5 _ rfl) ?_
  left
  refine eA W GA (h 6 _ rfl) ?_
  left
  refine eA W GA (h 7 _ rfl) ?_
  left
  rename_i p2 H2 n2 s2 m2 p3 H3 n3 s3 m3
  have O5:=s3 _ _ (s2 _ _ GA)
  refine eA W O5 (h 8 _ rfl) ?_
  left
  refine eA W O5 (h 9 _ rfl) ?_
  left
  refine eA W O5 (h 10 _ rfl) ?_
  left
  rename_i p4 H4 n4 s4 m4 p5 H5 n5 s5 m5
  have Wl:=s5 _ _ (s4 _ _ O5)
  refine eA W Wl (h 11 _ rfl) ?_
  left
  refine eA W Wl (h 12 _ rfl) ?_
  left
  rename_i p6 H6 s6 m6
  have ha6:=s6 _ _ Wl
  have nz:∀ j,4<=j->some (i == j)=some false:=fun j hj=>congrArg some (beq_eq_false_iff_ne.mpr aaa)
  refine Rf (Ds:=[G.kT,G.iZ]) W ha6 (aC.of m6) (JQ ((h 13 _ rfl).trans (nz 13 aa8)) ((h 14 _ rfl).trans (nz 14 aa8))) ?_
  left
  rename_i p7 H7 n7 s7 m7 p8 H8 n8 s8 m8
  have Z3:=(((s1.trans s2).trans s3).trans (s4.trans s5)).trans ((s6.trans s7).trans s8)
  refine Rc W (Z3 _ _ ha) (Rg rN hv) ?_
  left
  refine bZ rfl ?_
  left
  refine Kv ?_
  left
  refine⟨p8,rfl,⟨_,aP.of m8⟩,?_⟩
  have yB:i=0\/i=1\/i=2\/i=3:=by lia
  obtain ⟨bs,v7⟩:∃ bs:List Bool,bs=[i == 0,i == 1,i == 4,i == 2,i == 3,i == 5,i == 6,i == 7,i == 8,i == 9,i == 10,i == 11,i == 12,false]:=⟨_,rfl⟩
  have m9:H8 p8=some (.lst (bs.map V.bl)):=by rw [v7];exact m8
  have hb1:(bs.filter id).length=1/\bs.length=14:=by rw [v7];rcases yB with rfl|rfl|rfl|rfl <;> exact⟨rfl,rfl⟩
  refine GC rfl m9 aaa (hed.same Z3) fun pf HF sF mF=>?_
  left
  refine bZ (by simp [hb1.1]) ?_
  left
  rename_i q1 J1 o1 t1 u1 q2 J2 o2 t2 u2 q3 J3 o3 t3 u3
  have s38:=((sF.trans t1).trans t2).trans t3
  have Tt:=aP.of (K:=K) (s38 _ _ m9)
  have fin:=k _ (Z3.trans s38)
  subst v7
  rcases yB with rfl|rfl|rfl|rfl
  ·refine nS 0 Tt rfl aa8 aa8 (dY (aP.of u3) (aX (j:=0) rfl) ?_)
   cases hw
   exact fin
  ·refine nS 1 Tt rfl aa8 aa8 (dY (aP.of u3) (aX (j:=1) rfl) ?_)
   cases hw
   exact fin
  ·refine nS 3 Tt rfl aa8 aa8 (dY (aP.of u3) (aX (j:=3) rfl) ?_)
   cases hw
   exact fin
  ·refine nS 4 Tt rfl aa8 aa8 (dY (aP.of u3) (aX (j:=4) rfl) ?_)
   cases hw
   exact fin
theorem qO:Ok P w K mg base 1 "_law_span" ["_law_cell_here"] (qL K):=by
 have S:=B3
 refine T.DM.ok S (fun vs H Q E h=>?_) (fun f bf A outer s H vs Q E hr h=>?_)
 ·obtain ⟨_,rfl,_⟩:=h;rfl
 ·obtain ⟨c,rfl,hc,k⟩:=h
  refine⟨_,(ag (cy 1 S.nd (bP (aa (aA lW (aA bE (aA bE (aA oC (pv 0) ah) ah) ah) ah) af))) (ag (ck PassesOwn.never rfl (cW K rfl (bA (aa ah (aa ah (aa ah (aa ah af)))))) (aq (i:=2) S.nd rfl (Or.inl rfl)) (ai (fj (fC PySem.F.plainAttrs_list PySem.F.slot_list_append PySem.F.type_list_append dN (pv 1) (aa (aA lW (aA bE (aA bE (aA oC (pv 0) ah) (pv 2)) ah) ah) af))))) (ai (au (aB (cc K rfl) rfl T.cC boot_tuple (aa (pv 1) af)))))),?_⟩
  left
  rename_i l H1 n1 s1 m1 t2 H2 s2 m2
  refine Dn (xs:=[.int 10009,.int 10037,.int 10039,.int 10061]) (fun i σ H3=>∃ (o:Option V) (r:List Int),σ=[some (.int c),some (.ref l),o]/\aj H H3/\H3 l=some (.lst (r.map V.int))/\aC K H3 t2 [.int 10009,.int 10037,.int 10039,.int 10061]/\r.length=i+1/\Ts 9 2 r) ⟨_,[_],rfl,s1.trans s2,s2 _ _ m1,aC.of m2,rfl,⟨by show -9<=_/\_<=(9:Int);rw [List.getD_cons_zero];lia,fun j hj=>by match j,hj with|j+1,_=>exact (show (-2:Int)<=0/\(0:Int)<=2 by decide)⟩⟩ (fun i σ H3 hp=>by obtain ⟨o,r,rfl,_,_,h,_⟩:=hp;exact h) (fun i x σ H3 hx hp=>?_) (fun σ H3 hp=>?_)
  ·obtain ⟨o,r,rfl,s3,m3,mt,lr,hg⟩:=hp
   obtain ⟨p,rfl,hp⟩:∃ p:Int,x=.int p/\10000<p:=by
    match i,hx with
    | 0,hx|1,hx|2,hx|3,hx=>cases hx;exact⟨_,rfl,aa8⟩
   have l5:=(aad.mp hx).1
   left
   refine fL m3 (by rw [aaz];simp at l5;lia) ?_
   left
   exact⟨_,r++[_],rfl,s3.iO n1,by rw [aw,Bs],(d8.tp m3 (fun _ z=>nomatch z) (fun _ _ z=>nomatch z)) _ _ mt,by simp;lia,hg.add aaa aa8 aaa⟩
  ·obtain ⟨o,r,rfl,s3,m3,mt,lr,hg⟩:=hp
   left
   rename_i p4 H4 s4 m4
   exact k _ r _ (s3.trans s4) m4 (hg.rb lr)
theorem vd:Ok P w K mg base 1 "_law_numbers" ["_law_cell_here"] (j0 K):=by
 have S:=u5
 refine T.wJ.ok S (fun vs H Q E h=>?_) (fun f bf A outer s H vs Q E hr h=>?_)
 ·obtain ⟨_,rfl,_⟩:=h;rfl
 ·obtain ⟨c,rfl,hc,k⟩:=h
  refine⟨_,(ag (cy 1 S.nd (bP af)) (ag (ck PassesOwn.never rfl (cW K rfl (bA (aa ah (aa ah (aa ah (aa ah (aa ah af))))))) (aq (i:=2) S.nd rfl (Or.inl rfl)) (ai (fj (fC PySem.F.plainAttrs_list PySem.F.slot_list_append PySem.F.type_list_append dN (pv 1) (aa (aA lW (aA bE (aA bE (aA oC (pv 0) ah) (pv 2)) ah) ah) af))))) (ai (au (aB (cc K rfl) rfl T.cC boot_tuple (aa (pv 1) af)))))),?_⟩
  left
  rename_i l H1 n1 s1 m1 t2 H2 s2 m2
  refine Dn (xs:=[.int 100003,.int 100019,.int 100043,.int 100049,.int 100057]) (fun i σ H3=>∃ (o:Option V) (r:List Int),σ=[some (.int c),some (.ref l),o]/\aj H H3/\H3 l=some (.lst (r.map V.int))/\aC K H3 t2 [.int 100003,.int 100019,.int 100043,.int 100049,.int 100057]/\r.length=i/\Dy r) ⟨_,[],rfl,s1.trans s2,s2 _ _ m1,aC.of m2,rfl,fun _ h=>nomatch h⟩ (fun i σ H3 hp=>by obtain ⟨o,r,rfl,_,_,h,_⟩:=hp;exact h) (fun i x σ H3 hx hp=>?_) (fun σ H3 hp=>?_)
  ·obtain ⟨o,r,rfl,s3,m3,mt,lr,hg⟩:=hp
   obtain ⟨p,rfl,hp⟩:∃ p:Int,x=.int p/\10000<p:=by
    match i,hx with
    | 0,hx|1,hx|2,hx|3,hx|4,hx=>cases hx;exact⟨_,rfl,aa8⟩
   have l5:=(aad.mp hx).1
   left
   refine fL m3 (by rw [aaz];simp at l5;lia) ?_
   left
   exact⟨_,r++[_],rfl,s3.iO n1,by rw [aw,Bs],(d8.tp m3 (fun _ z=>nomatch z) (fun _ _ z=>nomatch z)) _ _ mt,by simp;lia,hg.add aaa⟩
  ·obtain ⟨o,r,rfl,s3,m3,mt,lr,hg⟩:=hp
   left
   rename_i p4 H4 s4 m4
   exact k _ r _ (s3.trans s4) m4 lr hg
theorem zO:Zx P w K mg base 1 G.jP ["self"] (zA K):=by
 have S:=zG
 refine T.jX.ok S (fun vs H Q E h=>?_) (fun f bf A outer s H vs Q E hr h=>?_)
 ·obtain @⟨x,C,dx,hC,hx,k⟩:=h;rfl
 ·obtain @⟨x,C,dx,hC,hx,k⟩:=h
  have bT:=T.bT
  have aM:=T.aM
  have aE:=T.aE
  have aS:=T.aS
  have aN:=T.aN
  refine⟨_,(ag (kM K rfl (pv 0) (bP af) rfl) (ag (kM K rfl (pv 0) (bP af) rfl) (ag (kM K rfl (pv 0) Bc rfl) (ai (kM K rfl (pv 0) Bc rfl))))),?_⟩
  obtain rfl:C=G.bg:=by rw [Nm,T.jW] at hC;cases hC;rfl
  left
  rename_i p1 H1 n1 s1 m1
  have x1:=s1 _ _ hx
  refine kN x1 bT aM (aa2 rfl) ?_
  have d1:p1≠x:=fun z=>by rw [z,hx] at n1;cases n1
  obtain ⟨H2,XG⟩:∃ H2,H2=upd H1 x (.ins G.bg dx (d9 "commas" (.ref p1) [])):=⟨_,rfl⟩
  rw [<- XG]
  have x2:H2 x=some (.ins G.bg dx [("commas",.ref p1)]):=by rw [XG];exact aw
  have c2:Ch x H1 H2:=XG ▸ d8
  clear XG
  left
  rename_i p3 H3 n3 s3 m3
  have d3:p3≠x:=fun z=>by rw [z,x2] at n3;cases n3
  have x3:=s3 _ _ x2
  refine kN x3 bT aE (aa2 rfl) ?_
  have d13:p1≠p3:=fun z=>by rw [<- z,c2 _ _ d1 m1] at n3;cases n3
  obtain ⟨H4,XH⟩:∃ H4,H4=upd H3 x (.ins G.bg dx (d9 "own_keys" (.ref p3) [("commas",.ref p1)])):=⟨_,rfl⟩
  rw [<- XH]
  have x4:H4 x=some (.ins G.bg dx [("commas",.ref p1),("own_keys",.ref p3)]):=by rw [XH];exact aw
  have c5:Ch x H3 H4:=XH ▸ d8
  have c4:Ch x H H4:=(((KI s1).trans c2).trans (KI s3)).trans c5
  have m4:=c5 _ _ d1 (s3 _ _ (c2 _ _ d1 m1))
  have m5:=c5 _ _ d3 m3
  have n30:H p3=none:=((KI s1).trans c2).new n3 d3
  clear XH c2
  left
  rename_i p5 H5 n5 s5 m5'
  have x5:=s5 _ _ x4
  refine kN x5 bT aS (aa2 rfl) ?_
  obtain ⟨H6,XI⟩:∃ H6,H6=upd H5 x (.ins G.bg dx (d9 "tunes" (.ref p5) [("commas",.ref p1),("own_keys",.ref p3)])):=⟨_,rfl⟩
  rw [<- XI]
  have x6:H6 x=some (.ins G.bg dx [("commas",.ref p1),("own_keys",.ref p3),("tunes",.ref p5)]):=by rw [XI];exact aw
  have c6:Ch x H4 H6:=(KI s5).trans (XI ▸ d8)
  clear XI
  left
  rename_i p7 H7 n7 s7 m7
  have x7:=s7 _ _ x6
  refine kN x7 bT aN (aa2 rfl) ?_
  have c8:Ch x H4 (upd H7 x (.ins G.bg dx (d9 "chords" (.ref p7) [("commas",.ref p1),("own_keys",.ref p3),("tunes",.ref p5)]))):=(c6.trans (KI s7)).trans d8
  exact k p1 p3 _ n1 n30 d13 d1 d3 (c4.trans c8) (c8 _ _ d1 m4) (c8 _ _ d3 m5) ⟨_,dx,_,_,hC,aw⟩
theorem zP:Ok P w K mg base 2 "is_signed" ["text","most"] (zt K):=by
 have S:=zH
 refine T.BL.lD S fun f bf A outer s H vs Q E hr h=>?_
 obtain @⟨y,m,hy,k⟩:=h
 refine⟨_,(ag (bj (ptr bI (pv 0) aG) (ai (au jx)) aK) (ai (au (aD (j4 T) (hr.mono aa8) (aa (fA (dC (fC PySem.F.plainAttrs_str PySem.F.slot_str_startswith PySem.F.type_str_startswith Gx (pv 0) (aa aG af))) (cF RI (pv 0) (dz ah) dy) (pv 0)) (aa (pv 1) af)))))),?_⟩
 left
 rw [bz.str0]
 by_cases h0:y=⟨#[48]⟩
 ·rw [if_pos (aan h0)]
  left
  have e:kI.AU y m=some 0:=by unfold kI.AU;rw [if_pos h0]
  rw [e] at k
  exact k _ (aj.refl _)
 rw [if_neg (by rw [aam h0];decide)]
 left
 refine Kj ?_
 rw [kI.Ju]
 left
 by_cases h1:y.cps[0]?=some 45
 ·rw [if_pos (aan h1)]
  left
  refine cx.c (aag (PySem.Txt.slice_le y _ _) hy) fun H1 s1=>?_
  have es:PySem.Txt.slice y (some 1) none=⟨(y.cps.toList.drop 1).toArray⟩:=kI.ML y 0
  rw [es]
  have e:(kI.AU y m).isSome=bz.cnt ⟨(y.cps.toList.drop 1).toArray⟩ m:=by
   unfold kI.AU
   rw [if_neg h0,if_pos h1]
   cases bz.cnt ⟨(y.cps.toList.drop 1).toArray⟩ m <;> rfl
  rw [e] at k
  exact k _ s1
 ·rw [if_neg (by rw [aam h1];decide)]
  left
  refine cx.c hy fun H1 s1=>?_
  have e:(kI.AU y m).isSome=bz.cnt y m:=by
   unfold kI.AU
   rw [if_neg h0,if_neg h1]
   cases bz.cnt y m <;> rfl
  rw [e] at k
  exact k _ s1
theorem xa:Ok P w K mg base 2 "parts_read" ["text","most"] (wK K):=by
 have S:=wW
 refine T.zl.lD S fun f bf A outer s H vs Q E hr h=>?_
 obtain @⟨z,m,⟨hz,hm⟩,⟨k1,k2⟩⟩:=h
 refine⟨_,(ag (cy 2 S.nd (fC PySem.F.plainAttrs_str PySem.F.slot_str_split PySem.F.type_str_split xW (pv 0) (aa aG af))) (ag (bj (PW.pt (qf (ptr gu (ax (bQ K rfl) rfl T.cL PySem.boot_len (aa (pv 2) af)) ah) (lU (eW (dC (ax (mf K rfl rfl) rfl T.uD boot_all (aa (kP ["part","most"] [none,some 1] (aR K rfl (pv 2)) (fun _ _ _ _ _=>(aq (i:=0) (nd ["part","most"]) rfl (Or.inl rfl))) (fun _ _ _ _ _=>rfl) (fun _ _ _ _ _=>(aD (j4 T) (hr.mono aa8) (aa (pv 0) (aa (pv 1) af))))) af))))))) (ai (au yb)) aK) (ai (au (bA (aa (aB iA rfl T.qG boot_int (aa (cX K (pv 2) ah) af)) (aa (aB iA rfl T.qG boot_int (aa (cX K (pv 2) ah) af)) af))))))),?_⟩
 have Q6:=bz.split_len z
 left
 refine Bj (ws:=PySem.Txt.split z (Str.ofString "/")) aa8 aaa (by rw [bz.QC];lia) rfl fun p1 H1 n1 s1 m1=>?_
 rw [bz.QC] at m1
 by_cases h2:(PySem.Txt.split z bz.aO).length=2
 ·obtain ⟨a,b,IV,la,lb⟩:=bz.QD h2
  rw [IV] at m1
  have m1:H1 p1=some (.lst [.str a,.str b]):=m1
  have Sk:=bz.yE (m:=m) IV
  left
  rw [if_neg (show ¬ (!decide ((([V.str a,V.str b].length:Nat):Int)=2))=true from Bool.noConfusion)]
  left
  refine dm _ (fun i=>V.bl (bz.cnt (([a,b]:List Str).getD i a) m)) rfl (aP.of m1) (show 2<=1000000 by decide) (fun i x H' Qc hx s2 kc=>?_) (fun l H' hl s2 m2=>?_)
  ·have hi:i<2:=(aad.mp hx).1
   match i,hi with
   | 0,_ =>
    cases hx
    left
    exact cx.c aaa fun H5 s5=>kc _ s5
   | 1,_ =>
    cases hx
    left
    exact cx.c aaa fun H5 s5=>kc _ s5
  ·have m2:H' l=some (.lst ([bz.cnt a m,bz.cnt b m].map V.bl)):=m2
   left
   refine tX (aP.of m2) ?_
   rw [show [bz.cnt a m,bz.cnt b m].all id=(bz.cnt a m && bz.cnt b m) by simp]
   left
   by_cases hc:(bz.cnt a m && bz.cnt b m)=true
   ·rw [hc] at Sk ⊢
    rw [if_pos rfl] at Sk
    rw [Bool.and_eq_true] at hc
    have r1:=bz.fw hc.1 hm
    have r2:=bz.fw hc.2 hm
    have m3:=s2 _ _ m1
    rw [if_neg (show ¬ (!true)=true by decide)]
    left
    refine t7 r1.1 aaa ?_
    left
    refine t7 r2.1 aaa ?_
    left
    rename_i p4 H4 s4 m4
    exact k1 _ _ Sk _ _ ((s1.trans s2).trans s4) m4
   ·rw [if_neg hc] at Sk
    rw [Bool.not_eq_true] at hc
    rw [hc]
    rw [if_pos (show (!false)=true from rfl)]
    left
    exact k2 Sk _ (s1.trans s2)
 ·have Sk:=bz.yF (m:=m) h2
  left
  rw [if_pos (by rw [aaz,aam aaa];rfl)]
  left
  exact k2 Sk _ s1
theorem He:Ok P w K mg base 2 "is_row" ["thing"] (xZ K):=by
 have S:=G5
 refine T.K5.ok S (fun vs H Q E h=>?_) (fun f bf A outer s H vs Q E hr h=>?_)
 ·obtain ⟨_,rfl,_⟩:=h;rfl
 ·obtain ⟨v,rfl,h⟩:=h
  have jR:=T.jR
  refine⟨_,(ag (bj (PW.pt (qf (eW (dC (ax (oV K rfl) rfl T.aQ boot_isinstance (aa (pv 0) (aa (sy (v:=V.ty "tuple") rfl T.cC boot_tuple rfl) af))))) (lU (ptr gu (ax (bQ K rfl) rfl T.cL PySem.boot_len (aa (pv 0) af)) (ax (bQ K rfl) rfl T.cL PySem.boot_len (aa (aH (v:=V.ref G.xX) rfl T.Fi rfl) af)))))) (ai (au jx)) aK) (ai (au (ax (mf K rfl rfl) rfl T.uD boot_all (aa (kP ["number"] [none] (cW K rfl (pv 0)) (fun _ _ _ _ _=>(aq (i:=0) (nd ["number"]) rfl (Or.inl rfl))) (fun _ _ _ _ _=>rfl) (fun _ _ _ _ _=>(aD (B9 T) (hr.mono aa8) (aa (pv 0) af)))) af))))),?_⟩
  rcases h with ⟨a,xs,rfl,hs,hl,hk,k⟩|⟨hv,k⟩
  ·left
   refine Iy ?_
   left
   refine aW (fun h1=>?_) (fun h1=>?_)
   ·have QA:xs.length≠5:=fun z=>by rw [z] at h1;simp at h1
    left
    rw [aam QA] at k
    exact k _ (aj.refl _)
   have QA:xs.length=5:=by simp at h1;lia
   left
   refine C7 (fun x=>.bl (wh x)) [] rfl hs hl (fun x H' Qc hx s kc=>?_) (fun l H1 HI s1 m1=>?_)
   ·left
    refine DS ((hk x hx).same s) ?_
    left
    exact kc _ (aj.refl _)
   left
   refine tX (bs:=xs.map wh) (aP.of (by rw [m1,aaS];rfl)) ?_
   left
   rw [aan QA,Bool.true_and] at k
   have e:(xs.map wh).all id=xs.all wh:=by rw [all_map];rfl
   rw [e]
   exact k _ s1
  ·rcases hv with ⟨i,rfl⟩|rfl|⟨s,rfl⟩|⟨a,xs,rfl,hs⟩
   all_goals
    left
    refine FI ?_
    left
    exact k
theorem qP:Ok P w K mg base 2 "split_up" ["number"] (BU K):=by
 have S:=B4
 refine T.DG.lD S fun f bf A outer s H vs Q E hr h=>?_
 obtain @⟨n,c0,c1,c2,c3,c4,m,hn,hm,k⟩:=h
 have jS:=T.jS
 refine⟨_,(ag (cy 1 S.nd (bP af)) (ag (cy 2 S.nd (pv 0)) (ag (ck PassesOwn.never rfl (cW K rfl (aH (v:=V.ref G.uw) rfl T.KW rfl)) (aq (i:=3) S.nd rfl (Or.inl rfl)) (ag (cy 4 S.nd (aD (vc T) (hr.mono aa8) (aa (pv 2) (aa (pv 3) af)))) (ag (fj (fC PySem.F.plainAttrs_list PySem.F.slot_list_append PySem.F.type_list_append dN (pv 1) (aa (cX K (pv 4) ah) af))) (ai (cy 2 S.nd (cX K (pv 4) ah)))))) (ai (au (bA (aa (aB (cc K rfl) rfl T.cC boot_tuple (aa (pv 1) af)) (aa (pv 2) af)))))))),?_⟩
 left
 rename_i l H1 hl s1 m1
 refine QZ hl s1 5 (fun i=>([.int c0,.int c1,.int c2,.int c3,.int c4]:List V).take i) (fun i σ=>∃ o1 o2,σ=[some (.int n),some (.ref l),some (.int (vT c0 c1 c2 c3 c4 m i)),o1,o2]) m1 ⟨_,_,by rw [hn,<- OB] <;> rfl⟩ (fun i H2 hi s=>⟨_,([.int 2,.int 3,.int 5,.int 7,.int 11]:List V)[i],jS _,by simp [hi]⟩) (fun H2 s=>⟨_,jS _,aah _⟩) (fun i x σ H2 H3 hi hp s Iv hy=>?_) (fun σ H2 hp s Iv=>?_)
 ·obtain ⟨o1,o2,rfl⟩:=hp
  obtain ⟨rfl,hy⟩:=hy
  have hx:=hy _ (jS _)
  obtain ⟨p,c,rfl,h5,q1,q2,q3⟩:∃ (p:Int) (c:Nat),x=.int p/\P5 p/\vT c0 c1 c2 c3 c4 m i=p ^ c*vT c0 c1 c2 c3 c4 m (i+1)/\vT c0 c1 c2 c3 c4 m (i+1) % p≠0/\([.int c0,.int c1,.int c2,.int c3,.int c4]:List V).take (i+1)=([.int c0,.int c1,.int c2,.int c3,.int c4]:List V).take i++[.int c]:=by
   match i,hi with
   | 0,_=>cases hx;exact⟨_,_,rfl,.p2,IH ..,IM _ _ _ _ _ hm,rfl⟩
   | 1,_=>cases hx;exact⟨_,_,rfl,.p3,II ..,IP _ _ _ _ _ hm,rfl⟩
   | 2,_=>cases hx;exact⟨_,_,rfl,.p5,IJ ..,IQ _ _ _ _ _ hm,rfl⟩
   | 3,_=>cases hx;exact⟨_,_,rfl,.p7,IK ..,IS _ _ _ _ _ hm,rfl⟩
   | 4,_=>cases hx;exact⟨_,_,rfl,.Xh,IL ..,IT _ _ _ _ _ hm,rfl⟩
  left
  refine f6.c h5 q1 q2 fun q H4 s4 m4=>?_
  left
  refine fL (by walk_at "hf") (by simp;lia) ?_
  have s5:=(s.trans s4).iO (o:=.lst (([.int c0,.int c1,.int c2,.int c3,.int c4]:List V).take i++[.int c])) hl
  have nq:q≠l:=fun z=>by
   subst z
   rw [s4 _ _ Iv] at m4
   cases m4
  have m5:upd H4 l (.lst (([.int c0,.int c1,.int c2,.int c3,.int c4]:List V).take i++[.int c])) q=some (.tup [.int c,.int (vT c0 c1 c2 c3 c4 m (i+1))]):=by rw [ay nq];exact m4
  have m6:upd H4 l (.lst (([.int c0,.int c1,.int c2,.int c3,.int c4]:List V).take i++[.int c])) l=some (.lst (([.int c0,.int c1,.int c2,.int c3,.int c4]:List V).take (i+1))):=by rw [aw,q3]
  left
  exact⟨⟨_,_,rfl⟩,s5,m6⟩
 ·obtain ⟨o1,o2,rfl⟩:=hp
  left
  rename_i q H3 s3 m3 p H4 s4 m4
  exact k _ _ _ (by walk_at "sm") (s4 _ _ m3) m4
theorem ve:Ok P w K mg base 2 "value" ["key","row"] (BV K):=by
 have S:=Lh
 refine T.NR.ok S (fun vs H Q E h=>?_) (fun f bf A outer s H vs Q E hr h=>?_)
 ·obtain ⟨_,_,_,_,_,_,rfl,_⟩:=h;rfl
 ·obtain ⟨kk,w,r,m,ws,rs,rfl,hk,hw,ZX,hl,hn,hm,h0,k⟩:=h
  refine⟨_,(ag (cy 2 S.nd (aD (Cb T) (hr.mono aa8) (aa (cX K (pv 0) ah) (aa (pv 1) af)))) (ai (au (fA (ptr bI (cX K (pv 0) ah) ah) (pv 2) (aA bE (pv 2) (cX K (pv 0) ah)))))),?_⟩
  left
  refine NY ws rs hw ZX hl hn hm fun H1 s1=>?_
  left
  refine aW (fun hc=>?_) (fun hc=>?_)
  ·left
   unfold val at k
   rw [if_pos (aak hc)] at k
   exact k _ s1
  ·have hz:m≠0:=aal hc
   unfold val at k
   rw [if_neg hz] at k
   left
   exact k _ s1
theorem Cd:Ok P w K mg base 2 "by_place" ["steps"] (BW K):=by
 have S:=B5
 refine T.DH.lD S fun f bf A outer s H vs Q E hr h=>?_
 obtain @⟨l,xs,st,⟨hl,eU,sf,iB,h5⟩,k⟩:=h
 refine⟨_,(ag (iP (k:=1) (N:=["place"]) (ix:=[none]) S.nd rfl (Or.inl rfl) rfl (dM rfl T.fo (aa (aH (v:=V.int 5) rfl T.cM ⟨_,rfl⟩) af)) (fun _ _ _ _ _=>(aq (i:=0) (show N6 ["place"] by decide +kernel) rfl (Or.inl rfl))) (fun _ _ _ _ _=>rfl) (fun _ _ _ _ _=>(aD (zL T) (hr.mono aa8) (aa (pv 0) (aa (aH (v:=V.int 5) rfl T.cM ⟨_,rfl⟩) af)))) rfl TH TH rfl True.intro) (ag (ck PassesOwn.never rfl (aR K rfl (pv 0)) (aq (i:=2) S.nd rfl (Or.inl rfl)) (ai (Pu (pv 2) (Pt (pv 1) (aD (eR T) (hr.mono aa8) (aa (pv 2) af)) set_list)))) (ai (au (pv 1))))),?_⟩
 have lr:=eU.length
 left
 refine lM (K:=K) (n:=5) [] (fun i=>bF i 5) rfl aa8 (fun i H' Qc hi s kc=>?_) (fun l1 H1 ys n1 s1 m1 r1=>?_)
 ·left
  exact nX.c (n:=5) aa8 fun p H5 s5 m5=>kc _ _ s5 (aC.of m5)
 left
 refine jF (xs:=xs) (fun i σ H2=>∃ (o:Option V) (ys:List V) (R:List (List Int)),σ=[some (.ref l),some (.ref l1),o]/\aj H H2/\H2 l1=some (.lst ys)/\az K H2 ys R/\BP (st.take i) R) ⟨_,ys,_,rfl,s1,m1,r1,KB⟩ (fun i σ H2 hp=>by obtain ⟨o,ys,R,rfl,s2,_⟩:=hp;exact s2.seq hl) (fun i x σ H2 hx hp=>?_) (fun σ H2 hp=>?_)
 ·obtain ⟨o,ys,R,rfl,s2,e2,r2,hb⟩:=hp
  obtain ⟨c,s,rfl,hc,hi⟩:=eU.get hx
  have ls:=iB s (mem_of hi)
  obtain ⟨kk,hk⟩:=sf.1 s (mem_of hi)
  have hk5:=CQ ls hk
  have ly:=r2.length
  rw [hb.len] at ly
  left
  refine cI.c (s2.at hc) aaa hk fun H3 s3=>?_
  have Wm:=s2.trans s3
  have Z4:=s3 _ _ e2
  walk_at "v"
  refine Rm (j:=kk) Z4 (ND aaa) ?_
  exact⟨_,ys.set kk (.ref c),R.set kk s,rfl,Wm.iO n1,aw,Bk kk ((r2.same s3).off Z4) (fm (Wm.at hc) Z4),NF sf hb hi hk hk5⟩
 obtain ⟨o,ys,R,rfl,s2,e2,r2,hb⟩:=hp
 rw [<- lr,aaN] at hb
 left
 exact k _ _ ys R n1 s2 e2 r2 hb
theorem lH:Ok P w K mg base 2 "product_of_leads" ["steps"] (lF K):=by
 have S:=lG
 refine T.mK.lD S fun f bf A outer s H vs Q E hr h=>?_
 obtain @⟨l,xs,st,R,W,⟨hl,eU,sf,iB,h5⟩,hb,hW,hL,hWn,k⟩:=h
 refine⟨_,(ag (cy 1 S.nd ah) (ag (ck PassesOwn.never rfl (aR K rfl (pv 0)) (aq (i:=2) S.nd rfl (Or.inl rfl)) (ai (cy 1 S.nd (aA yt (pv 1) (cX K (pv 2) (aD (eR T) (hr.mono aa8) (aa (pv 2) af))))))) (ai (au (pv 1))))),?_⟩
 have lr:=eU.length
 left
 refine jF (xs:=xs) (fun i σ H2=>∃ (o:Option V) (kp:Nat),σ=[some (.ref l),some (.int (Pd R kp)),o]/\aj H H2/\kp<=5/\((i=0/\kp=5)\/∃ j a,j+1=i/\st[j]?=some a/\cG a kp)) ⟨_,5,rfl,aj.refl _,aah _,.inl ⟨rfl,rfl⟩⟩ (fun i σ H2 hp=>by obtain ⟨o,kp,rfl,s2,_⟩:=hp;exact s2.seq hl) (fun i x σ H2 hx hp=>?_) (fun σ H2 hp=>?_)
 ·obtain ⟨o,kp,rfl,s2,Xw,Lk⟩:=hp
  obtain ⟨c,s,rfl,hc,hi⟩:=eU.get hx
  have ls:=iB s (mem_of hi)
  obtain ⟨kk,hk⟩:=sf.1 s (mem_of hi)
  have hk5:=CQ ls hk
  have hmul:c7 (Pd R kp) (s.getD kk 0):=by
   have b1:eT (Pd R kp)<=W:=by rw [cB];exact fH (hW kp Xw)
   have b2:eT (s.getD kk 0)<=W:=by rw [cB];exact fH (hL s (mem_of hi) kk hk)
   unfold c7
   lia
  left
  refine cI.c (s2.at hc) aaa hk fun H3 s3=>?_
  walk_at "v"
  refine jk ((s2.trans s3).at hc) (aX (int_at aaa)) ?_
  left
  refine⟨some (.ref c),kk,?_,s2.trans s3,aaa,.inr ⟨i,s,rfl,hi,hk⟩⟩
  rw [<- EI hb sf iB hi hk Lk]
  rfl
 obtain ⟨o,kp,rfl,s2,Xw,Lk⟩:=hp
 have he:Pd R kp=Pd R 0:=AL hb sf iB (by
  rcases Lk with ⟨z1,z2⟩|⟨j,a,z1,z2⟩
  ·exact .inl ⟨length_eq_zero_iff.mp aaa,z2⟩
  ·exact .inr ⟨j,a,aaa,z2⟩)
 rw [he]
 left
 exact k _ s2
theorem vf:Ok P w K mg base 2 "weights_for" ["rows","place","whole"] (uT K):=by
 have S:=u6
 refine T.wF.lD S fun f bf A outer s H vs Q E hr h=>?_
 obtain @⟨l,p,B,W,xs,R,⟨hl,eU,lK,iD,h9,Wn,hB,hW⟩,k⟩:=h
 refine⟨_,(ag (cy 3 S.nd (bP af)) (ag (ck PassesOwn.never rfl (nK K rfl false rfl T.gD (aa (pv 0) af)) (eM (n:=2) K rfl rfl (bq (aq (i:=4) S.nd rfl (Or.inl rfl)) (bq (aq (i:=5) S.nd rfl (Or.inl rfl)) eI))) (ag (cy 6 S.nd (fA (ptr bI (pv 4) (pv 1)) (pv 2) ah)) (ai (fj (fC PySem.F.plainAttrs_list PySem.F.slot_list_append PySem.F.type_list_append dN (pv 3) (aa (aA Ge (aA lW (pv 6) (aD (Cb T) (hr.mono aa8) (aa (pv 3) (aa (pv 5) af)))) (cX K (pv 5) (pv 4))) af)))))) (ai (au (aB (cc K rfl) rfl T.cC boot_tuple (aa (pv 3) af)))))),?_⟩
 have lr:=eU.length
 rw [lK.len] at lr
 left
 rename_i lw H1 n1 s1 m1
 generalize hwh:Pd R 0=whole at *
 refine Ke (k:=false) (xs:=xs) (fun i σ H2=>∃ (o1 o2 o3:Option V) (ws:List Int),σ=[some (.ref l),some (.int p),some (.int whole),some (.ref lw),o1,o2,o3]/\aj H H2/\H2 lw=some (.lst (ws.map V.int))/\ws.length=i/\WI R p whole ws/\∀ j,(ws.getD j 0).natAbs<=2 ^ (W+i*(B+4))) ⟨_,_,_,[],rfl,s1,m1,rfl,WI.start _ _ _,fun j=>by simp⟩ (fun i σ H2 hp=>by obtain ⟨o1,o2,o3,ws,rfl,s2,_⟩:=hp;exact me (s2.seq hl)) (fun i x σ H2 H3 hx hp s3=>?_) (fun σ H2 hp=>?_)
 ·obtain ⟨o1,o2,o3,ws,rfl,s2,e2,Sl,Pf,LP⟩:=hp
  obtain ⟨c,r,rfl,hc,hi⟩:=eU.get hx
  have hi5:i<5:=by have:=(aad.mp hx).1;lia
  have Wm:=s2.trans s3
  have e3:=s3 _ _ e2
  have hc3:=Wm.at hc
  have Tu:=lK.row r (mem_of hi)
  have oQ:=lK.pos i r hi
  have gp:=iD r (mem_of hi)
  have hexp:W+i*(B+4)<=400000:=by
   have:i*(B+4)<=4*(B+4):=aaH _ aaa
   lia
  have hmul:∀ j,j<ws.length->c7 (r.getD j 0) (ws.getD j 0):=fun j _=>by
   have b1:eT (r.getD j 0)<=B+1:=by rw [cB];exact fH (aaG (gp j) (pow_lt_pow_right aa8 (lt_succ_self _)))
   have b2:eT (ws.getD j 0)<=W+i*(B+4)+1:=by rw [cB];exact fH (aaG (LP j) (pow_lt_pow_right aa8 (lt_succ_self _)))
   unfold c7
   lia
  refine AY ?_
  refine ES ?_
  refine Vy (fun v H'=>v=.int (if ws.length=p then whole else 0)/\H'=H3) (fun Q' hQ'=>?_) (fun v H' hP=>?_)
  ·left
   refine aW (fun h4=>?_) (fun h4=>?_)
   ·left
    exact hQ' _ _ ⟨by rw [if_pos (by have:=aak h4;lia)],rfl⟩
   ·left
    exact hQ' _ _ ⟨by rw [if_neg (by have:=aal h4;lia)],rfl⟩
  obtain ⟨rfl,rfl⟩:=hP
  obtain ⟨hex,XE⟩:=Pf.next lK hwh.symm (by rw [Sl];exact hi)
  rw [Sl] at hex XE ⊢
  left
  refine BZ (kk:=false) ws r (me (aP.of e3)) hc3 aaa aaa hmul fun H4 s4=>?_
  walk_at "v"
  refine jk (s4.at hc3) (aX (int_at aaa)) ?_
  walk_at "v"
  refine Y1 (C:=JW) ⟨aaa,(log2_lt aaa).mpr (h9 i r hi)⟩ ?_
  left
  refine fL (s4 _ _ e3) (by simp;lia) ?_
  refine⟨_,_,_,ws++[((if i=p then whole else 0) - dt r ws).fdiv (r.getD i 0)],rfl,(Wm.trans s4).iO n1,by rw [aaR];exact aw,by simp [Sl],XE,fun j=>?_⟩
  have hd:=KA (a:=r) (b:=ws) gp LP
  rw [Sl] at hd
  have hS:0<(2:Nat) ^ (W+i*(B+4)):=aaZ _
  have hB0:0<(2:Nat) ^ B:=aaZ _
  have hWS:(2:Nat) ^ W<=2 ^ (W+i*(B+4)):=aaF aa8 aaa
  have Z5:(2:Nat) ^ (W+(i+1)*(B+4))=16*(2 ^ B*2 ^ (W+i*(B+4))):=by
   rw [show W+(i+1)*(B+4)=4+(B+(W+i*(B+4))) by rw [add_mul];lia,pow_add,pow_add]
  have hprod:2 ^ (W+i*(B+4))<=2 ^ B*2 ^ (W+i*(B+4)):=le_mul_of_pos_left _ hB0
  have hi4:i*(2 ^ B*2 ^ (W+i*(B+4)))<=4*(2 ^ B*2 ^ (W+i*(B+4))):=aaH _ aaa
  rw [Z5]
  by_cases cj:j<ws.length
  ·rw [List.getD,aaJ cj]
   have:=LP j
   rw [List.getD] at this
   lia
  ·by_cases ce:j=ws.length
   ·subst ce
    rw [List.getD,aaK (aah _),sub_self]
    show (((if i=p then whole else 0) - dt r ws).fdiv (r.getD i 0)).natAbs<=_
    have h1:=kF ((if i=p then whole else 0) - dt r ws) (show r.getD i 0≠0 by lia)
    have h2:((if i=p then whole else 0) - dt r ws).natAbs<=2 ^ W+i*(2 ^ B*2 ^ (W+i*(B+4))):=by
     have h3:(if i=p then whole else 0:Int).natAbs<=2 ^ W:=by
      split
      ·exact Wn
      ·exact aa0 _
     exact aag (natAbs_sub_le _ _) (add_le_add h3 hd)
    lia
   ·rw [List.getD,getElem?_eq_none (by simp;lia)]
    exact aa0 _
 obtain ⟨o1,o2,o3,ws,rfl,s2,e2,Sl,Pf,LP⟩:=hp
 rw [<- lr] at Sl LP
 left
 rename_i t H3 s3 m3
 exact k t H3 ws (s2.trans s3) (aC.of m3) Sl Pf LP
theorem qQ:A1 P w K mg base 2 "key_kept" ["desk","row","ring"] (BX K):=by
 have S:=B6
 refine T.DI.F8 S (fun vs H Q E h=>?_) (fun f bf A outer s H vs Q E hr h=>?_)
 ·obtain ⟨R,⟨d,p,c,k,ys,qs,w,m,rfl,hp,⟨hD,hk,hy,h6,hg,hm⟩,h7,h8⟩,hQ,hE⟩:=h;rfl
 ·obtain ⟨R,⟨d,p,c,k,ys,qs,w,m,rfl,hp,⟨hD,hk,hy,h6,hg,hm⟩,h7,h8⟩,hQ,hE⟩:=h
  have bT:=T.bT
  have aM:=T.aM
  have aE:=T.aE
  have aS:=T.aS
  have aN:=T.aN
  refine⟨_,(@ag _ _ _ _ _ (kM K rfl (pv 0) (dE (dB T) (hr.mono aa8) (fun _ _ z=>z) rfl (aa (@aA _ _ _ _ _ _ _ _ gQ (gz K rfl (pv 0) rfl) (@bP _ _ _ _ (@aa _ _ _ _ _ (@bA _ _ _ _ _ (aa (pv 1) (aa (pv 2) af))) af (by rfl)))) af)) rfl) (ai (au (aB b8 rfl T.jm boot_str (aa (ax (bQ K rfl) rfl T.cL PySem.boot_len (aa (gz K rfl (pv 0) rfl) af)) af))))),?_⟩
  obtain ⟨C,dx,t1,t2,hC,hd⟩:=hD
  obtain rfl:C=G.bg:=by rw [Nm,T.jW] at hC;cases hC;rfl
  have ly:=hy.length
  left
  rename_i p1 H1 s1 m1 q2 H2 n2 s2 m2 q3 H3 n3 s3 m3
  have Ck:=(s1.trans s2).trans s3
  have Wo:=Ck _ _ hd
  have p3:=aC.of (K:=K) (s3 _ _ (s2 _ _ m1))
  refine⟨q3,_,qs++[(w,m)],rfl,aP.of m3,XB p3 (Ck.at hp) (hy.same Ck),fun bh=>?_,fun iI C H' hC s=>⟨_,rfl,hE _ _ (h7 ?_ _ _ hC (Ck.trans s))⟩⟩
  rotate_left
  ·refine Classical.byContradiction fun z=>iI ⟨by simp;lia,fun q hq=>?_⟩
   rcases aax.mp hq with z|z
   ·exact hg q z
   ·rw [aaw.mp z];exact hm
  have h5:ys.length<6:=by have:=bh.1;simp at this;lia
  have Wq:q3≠d:=fun z=>by rw [z,s2 _ _ (s1 _ _ hd)] at n3;cases n3
  left
  refine kN Wo bT aE (aa2 rfl) ?_
  have cU:Ch d H3 (upd H3 d (.ins G.bg dx (d9 "own_keys" (.ref q3) [("commas",.ref c),("own_keys",.ref k),("tunes",t1),("chords",t2)]))):=d8
  have xU:upd H3 d (.ins G.bg dx (d9 "own_keys" (.ref q3) [("commas",.ref c),("own_keys",.ref k),("tunes",t1),("chords",t2)])) d=some (.ins G.bg dx [("commas",.ref c),("own_keys",.ref q3),("tunes",t1),("chords",t2)]):=aw
  generalize upd H3 d (.ins G.bg dx (d9 "own_keys" (.ref q3) [("commas",.ref c),("own_keys",.ref k),("tunes",t1),("chords",t2)]))=H4 at cU xU ⊢
  have mU:=cU _ _ Wq m3
  have tU:Tp K H3 H4:=cU.tp Wo (fun _ z=>nomatch z) (fun _ _ z=>nomatch z)
  left
  refine eZ (by rw [aaA];exact iY (by simp;lia)) ?_
  have e:=hQ _ _ (h8 h5 p1 p q3 H4 (s1.new (s2.new n3)) Wq (fun b o n e=>cU _ _ n (Ck _ _ e)) ⟨_,dx,_,_,hC,xU⟩ mU (tU _ _ p3) (tU _ _ (Ck.at hp)))
  rw [show (((ys++[V.ref p1]).length:Nat):Int)=(ys.length:Int)+1 by simp]
  exact e
theorem D5:Ok P w K mg base 2 "_law_sum" ["_law_powers","_law_rows"] (DR K):=by
 have S:=DW
 refine T.GZ.lD S fun f bf A outer s H vs Q E hr h=>?_
 obtain @⟨m,l,xs,rs,ps,⟨hm,hl,eU,hn,h100,h5,hb⟩,k⟩:=h
 refine⟨_,(ag (cy 2 S.nd (bA (aa ah (aa ah (aa ah (aa ah (aa ah af))))))) (ag (ck PassesOwn.never rfl (dM rfl T.fo (aa (ax (bQ K rfl) rfl T.cL PySem.boot_len (aa (pv 1) af)) af)) (aq (i:=3) S.nd rfl (Or.inl rfl)) (ai (cy 2 S.nd (aD (qN T) (hr.mono aa8) (aa (pv 2) (aa (cX K (pv 0) (pv 3)) (aa (cX K (pv 1) (pv 3)) af))))))) (ai (au (pv 2))))),?_⟩
 have lr:=eU.length
 left
 rename_i p1 H1 s1 m1
 refine JU (n:=xs.length) (fun i σ H2=>∃ (o1:Option V) (p:Addr),σ=[some (.ref m),some (.ref l),some (.ref p),o1]/\aj H H2/\aC K H2 p ((cQ (cz 5) (rs.take i) (ps.take i)).map V.int)) ⟨_,p1,rfl,s1,aC.of m1⟩ (fun i σ H2 hi hp=>?_) (fun σ H2 hp=>?_)
 ·obtain ⟨o1,p,rfl,s2,mp⟩:=hp
  obtain ⟨a,r,ea,ha,Z6⟩:=eU.get (i:=i) (aat hi)
  have gx:xs[i]?=some (.ref a):=by rw [aat hi,ea]
  have hj:i<ps.length:=by lia
  have hpi:ps[i]?=some (ps.getD i 0):=by rw [List.getD,aat hj];rfl
  have lq:=h5 r (mem_of Z6)
  have lp:(cQ (cz 5) (rs.take i) (ps.take i)).length=5:=kR rfl fun q hq=>h5 q (aar hq)
  walk_at "v"
  rw [show (0:Int)+(i:Int)=(i:Int) by lia]
  refine dY (s2.seq hm) (aX (j:=i) (int_at aaa)) ?_
  walk_at "v"
  refine dY (s2.seq hl) (aX gx) ?_
  walk_at "v"
  refine qM (cQ (cz 5) (rs.take i) (ps.take i)) r mp (s2.at ha) aaa aaa (fun y hy=>hb r (mem_of Z6) y hy _ (mem_of hpi)) fun p4 H4 s4 m4=>?_
  left
  refine⟨_,p4,rfl,s2.trans s4,?_⟩
  rw [take_snoc Z6,take_snoc hpi,ug r _ _ _ _ (by simp [hn])]
  exact m4
 ·obtain ⟨o1,p,rfl,s2,mp⟩:=hp
  rw [<- lr,aaN,hn,aaN] at mp
  left
  exact k _ _ s2 mp
theorem D6:Ok P w K mg base 3 "is_tone" ["thing"] (uO K):=by
 have S:=DX
 refine T.GU.ok S (fun vs H Q E h=>?_) (fun f bf A outer s H vs Q E hr h=>?_)
 ·obtain ⟨_,rfl,_⟩:=h;rfl
 ·obtain ⟨v,rfl,h⟩:=h
  have Bx:=T.Bx
  refine⟨_,(ag (bj (eW (dC (aD (He T) (hr.mono aa8) (aa (pv 0) af)))) (ai (au jx)) aK) (ai (au (ax (mf K rfl rfl) rfl T.uD boot_all (aa (kP ["number","bound"] [none,none] (iy K rfl true true rfl T.xY (aa (pv 0) (aa (aH (v:=V.ref G.ux) rfl T.KY rfl) af))) (fun _ _ _ _ _=>(eM (n:=2) K rfl rfl (bq (aq (i:=0) (nd ["number","bound"]) rfl (Or.inl rfl)) (bq (aq (i:=1) (nd ["number","bound"]) rfl (Or.inl rfl)) eI)))) (fun _ _ _ _ _=>rfl) (fun _ _ _ _ _=>(y4 Ek (ax oU rfl T.KS boot_abs (aa (pv 0) af)) (pv 1)))) af))))),?_⟩
  rcases h with ⟨a,x0,x1,x2,x3,x4,rfl,hs,k⟩|⟨ho,k⟩
  ·left
   refine uX (.inl ⟨a,_,rfl,hs,(by show 5<=1000;decide),fun x hx=>?_,fun H1 s1=>?_⟩)
   ·simp only [aaC,not_mem_nil,or_false] at hx
    rcases hx with rfl|rfl|rfl|rfl|rfl <;> exact .inl ⟨_,rfl⟩
   left
   refine Iy ?_
   left
   refine nA (k1:=true) (k2:=true) [] (fun i=>.bl (decide ((if ([x0,x1,x2,x3,x4]:List Int).getD i 0<0 then -([x0,x1,x2,x3,x4]:List Int).getD i 0 else ([x0,x1,x2,x3,x4]:List Int).getD i 0)<=([700,60,60,60,60]:List Int).getD i 0))) rfl (by walk_at "hf") (by walk_at "hf") (by rfl) (by show 5<=1000000;decide) (fun i x y H' Qc ex ey hs kc=>?_) (fun l H2 hl s2 m2=>?_)
   ·have hi:i<5:=(aad.mp ex).1
    match i,hi with
    | 0,_|1,_|2,_|3,_|4,_ =>
     cases ex
     cases ey
     left
     exact kc _ (aj.refl _)
   left
   refine tX (bs:=[decide ((if x0<0 then -x0 else x0)<=700),decide ((if x1<0 then -x1 else x1)<=60),decide ((if x2<0 then -x2 else x2)<=60),decide ((if x3<0 then -x3 else x3)<=60),decide ((if x4<0 then -x4 else x4)<=60)]) (aP.of m2) ?_
   left
   exact k _ (by walk_at "sm")
  ·rcases ho with ⟨a,xs,rfl,hs,hl,hk,hf⟩|hn
   ·left
    refine uX (.inl ⟨a,xs,rfl,hs,hl,hk,fun H1 s1=>?_⟩)
    rw [hf]
    left
    refine FI ?_
    left
    exact k _ s1
   ·left
    refine uX (.inr ⟨hn,?_⟩)
    left
    refine FI ?_
    left
    exact k _ (aj.refl _)
theorem Hf:A1 P w K mg base 3 "row_of" ["top","bottom"] (G1 K):=by
 have S:=G6
 refine T.K6.F8 S (fun vs H Q E h=>?_) (fun f bf A outer s H vs Q E hr h=>?_)
 ·obtain @⟨t,b,c0,c1,c2,c3,c4,d0,d1,d2,d3,d4,m,m',hc,ke,kq⟩:=h;rfl
 ·obtain @⟨t,b,c0,c1,c2,c3,c4,d0,d1,d2,d3,d4,m,m',hc,ke,kq⟩:=h
  refine⟨_,(ag (bj (PW.pt (qf (ptr qg (pv 0) ah) (lU (ptr qg (pv 1) ah)))) (ai (fO T.cH.i PySem.F.excBase_ValueError TH PySem.F.excBase_ValueError rfl (fun _ _ z=>z) rfl rfl T.jV (aa aG af))) aK) (ag (cy 2 S.nd (aD (qP T) (hr.mono aa8) (aa (pv 0) af))) (ag (cy 3 S.nd (aD (qP T) (hr.mono aa8) (aa (pv 1) af))) (ag (bj (ptr gu (cX K (pv 2) ah) (cX K (pv 3) ah)) (ai (fO T.cH.i PySem.F.excBase_ValueError TH PySem.F.excBase_ValueError rfl (fun _ _ z=>z) rfl rfl T.jV (aa aG af))) aK) (ai (au (aD (Fo T) (hr.mono aa8) (aa (cX K (pv 2) ah) (aa (cX K (pv 3) ah) af))))))))),?_⟩
  left
  refine aW (fun h1=>?_) (fun h1=>?_)
  ·left
   exact⟨aa8,ke _ _ T.cH.ns (by walk_at "sm") (.inl (aak h1))⟩
  left
  refine aW (fun h2=>?_) (fun h2=>?_)
  ·left
   exact⟨aa8,ke _ _ T.cH.ns (by walk_at "sm") (.inr (.inl (aak h2)))⟩
  have t1:1<=t:=by have:=aal h1;lia
  have b1:1<=b:=by have:=aal h2;lia
  obtain ⟨ht,hb,hm,lC⟩:=hc.resolve_left aaa
  left
  refine gE.c ht hm fun q1 p1 H1 s1 mq1 mp1=>?_
  left
  refine gE.c hb lC fun q2 p2 H2 s2 mq2 mp2=>?_
  left
  refine aW (fun h3=>?_) (fun h3=>?_)
  ·left
   exact⟨aa8,ke _ _ T.cH.ns (by walk_at "sm") (.inr (.inr (by simpa using h3)))⟩
  left
  refine Lb [(c0:Int),c1,c2,c3,c4] [(d0:Int),d1,d2,d3,d4] (show aC K H2 q1 _ from aC.of (s2 _ _ mq1)) (show aC K H2 q2 _ from aC.of mq2) rfl (aa2 rfl) fun p3 H3 s3 m3=>?_
  exact kq _ _ (by walk_at "sm") t1 b1 (by simpa using h3) m3
theorem x9:Ok P w K mg base 3 "values" ["keys","row"] (G4 K):=by
 have S:=G7
 refine T.K8.lD S fun f bf A outer s H vs Q E hr h=>?_
 obtain @⟨l,a,xs,ks,row,⟨hl,N7,h6,hg,hw,ha,jv,ZZ⟩,k⟩:=h
 refine⟨_,(ai (au (aB (cc K rfl) rfl T.cC boot_tuple (aa (kP ["key","row"] [none,some 1] (aR K rfl (dE (EX:=fun _ _ _=>False) (dB T) (hr.mono aa8) noraise rfl (aa (pv 0) af))) (fun _ _ _ _ _=>(aq (i:=0) (nd ["key","row"]) rfl (Or.inl rfl))) (fun _ _ _ _ _=>rfl) (fun _ _ _ _ _=>(aD (ve T) (hr.mono aa8) (aa (pv 0) (aa (pv 1) af))))) af)))),?_⟩
 have lk:=N7.length
 left
 refine gb ⟨hl,N7,h6,hg⟩ ?_
 left
 refine dm (xs:=xs) [some (.ref a)] (fun i=>.int (val (ks.getD i ([],0)).1 (ks.getD i ([],0)).2 row)) rfl hl aaa (fun i x H' Qc hx s kc=>?_) (fun l2 H2 n2 s2 m2=>?_)
 ·obtain ⟨ak,wk,kk,rfl,h1,h2,h3⟩:=N7.get hx
  have hm:=aay h3
  obtain ⟨q1,q2⟩:=hw kk hm
  have e:ks.getD i ([],0)=kk:=by rw [List.getD,h3];rfl
  rw [e] at kc
  left
  exact zC kk.1 row (s.at h1) (s.at h2) (s.at ha) aaa aaa (ue.mul ZZ q2 aa8 aaa) (by have:=hg kk hm;lia) fun H3 s3=>kc _ s3
 have ev:(List.range xs.length).map (fun i=>V.int (val (ks.getD i ([],0)).1 (ks.getD i ([],0)).2 row))=(ks.map fun k=>val k.1 k.2 row).map V.int:=by
  rw [<- lk,aaS]
  refine ext_getElem (by simp) fun i h1 h2=>?_
  simp at h1
  simp [List.getD,aat h1]
 rw [ev] at m2
 left
 rename_i p3 H3 s3 m3
 exact k p3 H3 (s2.trans s3) (aC.of m3)
theorem xb:Ok P w K mg base 3 "line_words" ["line"] (wO K):=by
 have S:=wX
 refine T.zq.lD S fun f bf A outer s H vs Q E hr h=>?_
 obtain @⟨w0,ws,⟨hw,hs,hn⟩,k⟩:=h
 have qH:=T.qH
 have jT:=T.jT
 refine⟨_,(ag (cy 1 S.nd (fC PySem.F.plainAttrs_str PySem.F.slot_str_split PySem.F.type_str_split xW (pv 0) (aa aG af))) (ag (bj (gv (Gw T.BA) (cX K (pv 1) ah) (aH (v:=V.ref G.nT) rfl T.By rfl) (by with_unfolding_all rfl)) (ai ng) aK) (ag (cy 2 S.nd (xu (Bi T.BA) (aH (v:=V.ref G.nT) rfl T.By rfl) (cX K (pv 1) ah) (fun _ _=>rfl))) (ag (bj (ptr Ek (ax (bQ K rfl) rfl T.cL PySem.boot_len (aa (pv 1) af)) (pv 2)) (ai ng) aK) (ag (bj (gv (C1 K rfl) (cX K (pv 1) ah) (aH (v:=V.ref G.jO) rfl T.Bz rfl) (by with_unfolding_all rfl)) (ai (cy 1 S.nd (aA lV (cF (fM K rfl) (pv 1) dy (dz (pv 2))) (bP (aa (fC PySem.F.plainAttrs_str PySem.F.slot_str_join PySem.F.type_str_join nQ aG (aa (cF (fM K rfl) (pv 1) (dz (pv 2)) dy) af)) af))))) aK) (ag (bj (ptr El (ax (bQ K rfl) rfl T.cL PySem.boot_len (aa (pv 1) af)) (aA lV (pv 2) ah)) (ai ng) aK) (ag (bj (PW.pt (Cm (gv (C1 K rfl) (cX K (pv 1) ah) (aH (v:=V.ref G.fY) rfl T.uE rfl) (by with_unfolding_all rfl)) (yc (eW (dC (ax (mf K rfl rfl) rfl T.uD boot_all (aa (kP ["word"] [none] (aR K rfl (cF (fM K rfl) (pv 1) (dz ah) dy)) (fun _ _ _ _ _=>(aq (i:=0) (nd ["word"]) rfl (Or.inl rfl))) (fun _ _ _ _ _=>rfl) (fun _ _ _ _ _=>(aD (zP T) (hr.mono aa8) (aa (pv 0) (aa (aH (v:=V.int 4) rfl T.pG ⟨_,rfl⟩) af))))) af))))))) (ai ng) aK) (ai (au (pv 1)))))))))),?_⟩
 obtain ⟨hv,ht,h7,Z7,h6⟩:=NK hw
 have hz:=uu (w0::ws) fun w hw=>(aaC.mp hw).elim (fun e=>by rw [e];lia) fun h=>(hs w h).2
 rw [length_cons] at hz
 left
 refine Bj (ws:=w0::ws) aa8 (by show (Str.join bk (w0::ws)).length<=_;lia) (by rw [length_cons];lia) (by rw [show Str.ofString " "=bk by decide];exact kI.CY (cons_ne_nil _ _) fun w hw=>(aaC.mp hw).elim (fun e=>by rw [e];exact Z7) fun h=>(hs w h).1) fun p1 H1 n1 s1 m1=>?_
 left
 refine dY (aP.of m1) (aX (j:=0) rfl) ?_
 left
 refine Ki ?_
 unfold Wc at hv
 rw [hv]
 left
 refine bZ rfl ?_
 left
 refine dY (aP.of m1) (aX (j:=0) rfl) ?_
 left
 refine t9 hv ?_
 left
 refine bZ (aam (by rw [aaz,length_cons];lia)) ?_
 left
 refine dY (aP.of m1) (aX (j:=0) rfl) ?_
 left
 refine bZ ht.1 ?_
 left
 refine bZ (aam (by rw [aaz,length_cons];lia)) ?_
 left
 refine dY (aP.of m1) (aX (j:=0) rfl) ?_
 left
 by_cases hk:LL (V.str w0) [.str "key",.str "ring"]=true
 ·refine jl hk ?_
  left
  rename_i p2 H2 n2 s2 m2
  refine dm (xs:=ws.map V.str) [] (fun _=>.bl true) rfl (aP.of m2) (by rw [aaz];lia) (fun j x H' Qc hx s kc=>?_) (fun l3 H3 n3 s3 m3=>?_)
  ·obtain ⟨y,rfl,hy⟩:=Kh hx
   have Qf:=mem_of hy
   left
   refine i0.c (aag (hs y Qf).2 aa8) fun H4 s4=>?_
   rw [hn (ht.2 hk) y Qf]
   exact kc _ s4
  have e:(List.range (ws.map V.str).length).map (fun _=>V.bl true)=(List.replicate (ws.map V.str).length true).map V.bl:=by rw [map_const',aaL,map_replicate]
  rw [e] at m3
  left
  refine tX (aP.of m3) ?_
  rw [all_true]
  left
  refine bZ rfl ?_
  left
  exact k _ _ ((s1.trans s2).trans s3) (s3 _ _ (s2 _ _ m1))
 ·refine bZ (Bool.not_eq_true _ ▸ hk) ?_
  refine bZ rfl ?_
  left
  exact k _ _ s1 m1
theorem xc:A1 P w K mg base 3 "key_answer" ["desk","words"] (wQ K):=by
 have S:=wY
 refine T.zr.F8 S (fun vs H Q E h=>?_) (fun f bf A outer s H vs Q E hr h=>?_)
 ·obtain ⟨R,⟨d,l,c,k,ys,qs,w,rfl,hl,h5,hf,hK,hP⟩,hQ,hE⟩:=h;rfl
 ·obtain ⟨R,⟨d,l,c,k,ys,qs,w,rfl,hl,h5,hf,hK,hP⟩,hQ,hE⟩:=h
  refine⟨_,(ai (au (dE (qQ T) (hr.mono aa8) (fun _ _ z=>z) rfl (aa (pv 0) (aa (aB (cc K rfl) rfl T.cC boot_tuple (aa (kP ["word"] [none] (aR K rfl (pv 1)) (fun _ _ _ _ _=>(aq (i:=0) (nd ["word"]) rfl (Or.inl rfl))) (fun _ _ _ _ _=>rfl) (fun _ _ _ _ _=>(aB iA rfl T.qG boot_int (aa (pv 0) af)))) af)) (aa ah af)))))),?_⟩
  left
  refine dm (xs:=(w.map nw).map V.str) [] (fun j=>.int (w.getD j 0)) rfl hl (by simp;lia) (fun j x H' Qc hx s kc=>?_) (fun l2 H2 n2 s2 m2=>?_)
  ·obtain ⟨rfl,hm⟩:=Pb hx
   have b:=Dz (hf _ hm)
   left
   exact t7 b.1 b.2 (kc _ (aj.refl _))
  rw [Pa (by simp)] at m2
  left
  rename_i p3 H3 s3 m3
  exact⟨R,⟨d,p3,c,k,ys,qs,w,0,rfl,aC.of m3,hK.same (s2.trans s3),hP.same (s2.trans s3)⟩,hQ,fun c H' h=>⟨c,rfl,hE _ _ h⟩⟩
theorem vg:A1 P w K mg base 3 "ring_answer" ["desk","words"] (uV K):=by
 have S:=u7
 refine T.wH.F8 S (fun vs H Q E h=>?_) (fun f bf A outer s H vs Q E hr h=>?_)
 ·obtain ⟨R,⟨d,l,c,k,ys,qs,w,m,rfl,hl,h5,hf,hK,hP⟩,hQ,hE⟩:=h;rfl
 ·obtain ⟨R,⟨d,l,c,k,ys,qs,w,m,rfl,hl,h5,hf,hK,hP⟩,hQ,hE⟩:=h
  refine⟨_,(ai (au (dE (qQ T) (hr.mono aa8) (fun _ _ z=>z) rfl (aa (pv 0) (aa (aB (cc K rfl) rfl T.cC boot_tuple (aa (kP ["word"] [none] (aR K rfl (cF (fM K rfl) (pv 1) (dz ah) dy)) (fun _ _ _ _ _=>(aq (i:=0) (nd ["word"]) rfl (Or.inl rfl))) (fun _ _ _ _ _=>rfl) (fun _ _ _ _ _=>(aB iA rfl T.qG boot_int (aa (pv 0) af)))) af)) (aa (aB iA rfl T.qG boot_int (aa (cX K (pv 1) ah) af)) af)))))),?_⟩
  left
  rename_i p1 H1 n1 s1 m1
  refine dm (xs:=(w.map nw).map V.str) [] (fun j=>.int (w.getD j 0)) rfl (aP.of m1) (by simp;lia) (fun j x H' Qc hx s kc=>?_) (fun l2 H2 n2 s2 m2=>?_)
  ·obtain ⟨rfl,hm⟩:=Pb hx
   have b:=Dz (hf _ (.tail _ hm))
   left
   exact t7 b.1 b.2 (kc _ (aj.refl _))
  rw [Pa (by simp)] at m2
  left
  rename_i p3 H3 s3 m3
  have Ck:=(s1.trans s2).trans s3
  refine dY (Ck.seq hl) (aX (j:=0) rfl) ?_
  have b:=Dz (hf m (.head _))
  left
  refine t7 b.1 b.2 ?_
  left
  exact⟨R,⟨d,p3,c,k,ys,qs,w,m,rfl,aC.of m3,hK.same Ck,hP.same Ck⟩,hQ,fun c H' h=>⟨c,rfl,hE _ _ h⟩⟩
theorem mT:Ok P w K mg base 3 "_law_paper_right" ["_law_commas","_law_span_here","_law_found"] (mQ K):=by
 have S:=mR
 refine T.nW.lD S fun f bf A outer s H vs Q E hr h=>?_
 obtain @⟨l,a,f0,xs,rs,row,⟨hl,hx,jw,ha,gp,ho⟩,k⟩:=h
 refine⟨_,(ag (bj (ptr bI (cX K (pv 2) ah) aG) (ai (au (Co (y4 bI (ax (bQ K rfl) rfl T.cL PySem.boot_len (aa (cX K (pv 2) ah) af)) (ax (bQ K rfl) rfl T.cL PySem.boot_len (aa (pv 0) af))) (Cn (y4 (kK K rfl hr.units) (aD (D5 T) (hr.mono aa8) (aa (cX K (pv 2) ah) (aa (pv 0) af))) (pv 1)))))) aK) (ag (eX (i:=3) S.nd rfl (Or.inr rfl) (cX K (pv 2) ah)) (ag (bj (PW.pt (qf (ptr bI (cX K (pv 3) ah) ah) (qf (ptr qg (cX K (pv 3) ah) ah) (lU (eW (dC (ax (mf K rfl rfl) rfl T.uD boot_all (aa (kP ["_law_comma","_law_key"] [none,some 3] (aR K rfl (pv 0)) (fun _ _ _ _ _=>(aq (i:=0) (nd ["_law_comma","_law_key"]) rfl (Or.inl rfl))) (fun _ _ _ _ _=>rfl) (fun _ _ _ _ _=>(y4 bI (aD (fu T) (hr.mono aa8) (aa (pv 1) (aa (pv 0) af))) ah))) af)))))))) (ai (au jx)) aK) (ai (au (Co (y4 bI (cX K (pv 2) ah) aG) (Cn (y4 gu (aD (fu T) (hr.mono aa8) (aa (pv 3) (aa (pv 1) af))) ah)))))))),?_⟩
 have v7:=fun v hv=>fX (M:=2 ^ 4) (jw.2 v hv) aa8 aa8
 have h5:Len 5 rs:=fun v hv=>(v7 v hv).1
 have h6:=jw.1
 have lx:=hx.length
 have Z8:=fX (M:=2 ^ 5) gp aa8 aa8
 rcases ho with ⟨pl,ps,hf,mp,lp,Sm,Ce⟩|⟨kt,w,key,hf,hk,hw,l5,Z9,hfw,hz,rK⟩
 ·left
  refine jl aa8 ?_
  left
  refine jl (by simp;lia) ?_
  left
  refine mP.c (ps:=ps) ⟨aP.of mp,hl,hx,aaa,aaa,h5,fun r hr y hy n hn=>.inr ?_⟩ fun p5 H5 s5 m5=>?_
  ·have b1:eT n<=400001:=by rw [cB];exact fH (aaG (Sm n hn) (pow_lt_pow_right aa8 aa8))
   have b2:eT y<=110:=by rw [cB];exact fH (aaG (mI (v7 r hr).2 hy) (pow_lt_pow_right aa8 aa8))
   unfold c7
   lia
  have ep:cQ (cz 5) rs ps=row:=by
   refine bo (n:=5) (kR (m:=cz 5) rfl h5) Z8.1 fun j hj=>?_
   rw [uk (n:=5) (m:=cz 5) hj rfl h5,Ce j hj,ba]
   lia
  rw [ep] at m5
  left
  refine xN (dP.row m5) (dP.row (s5.at ha)) (fP _) (fP _) ?_
  rw [sJ,aan rfl]
  exact k _ s5
 have hv0:∀ v∈rs,val key.1 key.2 v=0:=fun v hv=>hz v (h5 v hv) (Span.mem hv)
 left
 refine bZ aa8 ?_
 left
 refine bZ (aam aaa) ?_
 left
 refine bZ (aam aaa) ?_
 left
 refine dm (xs:=xs) [some (.ref kt)] (fun _=>.bl true) rfl hl aaa (fun j x H' Qc Oz s kc=>?_) (fun l2 H2 n2 s2 m2=>?_)
 ·obtain ⟨av,v,rfl,h1,h2⟩:=hx.get Oz
  have hv:=mem_of h2
  left
  refine cZ.c ⟨s.at hk,s.at hw,s.at h1,l5,h5 v hv,Z9,hfw,rP (M:=4) (v7 v hv).2 aa8⟩ fun H3 s3=>?_
  rw [hv0 v hv]
  left
  exact kc _ s3
 have eb:(List.range xs.length).map (fun _=>V.bl true)=(List.replicate xs.length true).map V.bl:=by rw [map_const',aaL,map_replicate]
 rw [eb] at m2
 left
 refine tX (aP.of m2) ?_
 rw [all_true]
 left
 refine bZ rfl ?_
 left
 refine jl aa8 ?_
 left
 refine cZ.c ⟨s2.at hk,s2.at hw,s2.at ha,l5,Z8.1,Z9,hfw,rP (M:=5) Z8.2 aa8⟩ fun H3 s3=>?_
 left
 rw [aam rK]
 exact k _ (s2.trans s3)
theorem D7:A1 P w K mg base 4 "tone_of" ["row"] (DO K):=by
 have S:=DY
 refine T.GV.F8 S (fun vs H Q E h=>?_) (fun f bf A outer s H vs Q E hr h=>?_)
 ·obtain @⟨a,x0,x1,x2,x3,x4,ha,ke,kq⟩:=h;rfl
 ·obtain @⟨a,x0,x1,x2,x3,x4,ha,ke,kq⟩:=h
  refine⟨_,(ag (bj (eW (dC (aD (D6 T) (hr.mono aa8) (aa (pv 0) af)))) (ai (fO T.fZ.i PySem.F.excBase_ValueError TH PySem.F.excBase_ValueError rfl (fun _ _ z=>z) rfl rfl T.uF (aa aG af))) aK) (ai (au (pv 0)))),?_⟩
  left
  refine DT (by walk_at "hf") fun H1 s1=>?_
  left
  refine aW (fun h1=>?_) (fun h1=>?_)
  ·left
   exact⟨aa8,ke (by simpa using h1) _ _ T.fZ.ns (by walk_at "sm")⟩
  left
  exact kq (by simpa using h1) _ (by walk_at "sm")
theorem vh:Ok P w K mg base 4 "first_heard" ["commas","keys"] (uU K):=by
 have S:=u9
 refine T.wG.lD S fun f bf A outer s H vs Q E hr h=>?_
 obtain @⟨l,m,xs,ys,rs,ks,⟨hl,eU,h6,Tv,hm,N7,hk6,hg,hw⟩,k1,k2⟩:=h
 refine⟨_,(ag (ck PassesOwn.never rfl (nK K rfl false rfl T.gD (aa (pv 0) af)) (eM (n:=2) K rfl rfl (bq (aq (i:=2) S.nd rfl (Or.inl rfl)) (bq (aq (i:=3) S.nd rfl (Or.inl rfl)) eI))) (ai (bj (dC (ax (RF K rfl rfl) rfl T.Wg boot_any (aa (kP ["number"] [none] (cW K rfl (aD (x9 T) (hr.mono aa8) (aa (pv 1) (aa (pv 3) af)))) (fun _ _ _ _ _=>(aq (i:=0) (nd ["number"]) rfl (Or.inl rfl))) (fun _ _ _ _ _=>rfl) (fun _ _ _ _ _=>(y4 gu (pv 0) ah))) af))) (ai (au (pv 2))) aK))) (ai (au yb))),?_⟩
 have lr:=eU.length
 left
 refine Ke (k:=false) (xs:=xs) (fun i σ Hn=>∃ (o1 o2:Option V),σ=[some (.ref l),some (.ref m),o1,o2]/\aj H Hn/\∀ j,j<i->¬ Hr ks (rs.getD j [])) ⟨_,_,rfl,aj.refl _,fun j hj=>absurd hj (Nat.not_lt_zero _)⟩ (fun i σ Hn hp=>by obtain ⟨_,_,rfl,sn,_⟩:=hp;exact me (sn.seq hl)) (fun i x σ Hn Hm hx hp sm=>?_) (fun σ Hn hp=>?_)
 ·obtain ⟨o1,o2,rfl,sn,iI⟩:=hp
  obtain ⟨ap,rp,rfl,XJ,Sn⟩:=eU.get hx
  have s2:=sn.trans sm
  have e1:rs.getD i []=rp:=by rw [List.getD,Sn];rfl
  obtain ⟨q1,q2⟩:=Tv rp (aay Sn)
  have hil:=(aad.mp Sn).1
  left
  refine kW.c ⟨s2.seq hm,N7.same s2,hk6,hg,hw,s2.at XJ,q1,fun x hx=>aag (q2 x hx) aa8⟩ fun p3 H3 s3 m3=>?_
  left
  refine el (r:=ks.map fun k:List Int×Int=>val k.1 k.2 rp) (fun x=>.bl (x != 0)) [] rfl m3 (by simp;lia) (fun x H' Qc Oz s kc=>?_) (fun l4 H4 n4 s4 m4=>?_)
  ·left
   have e:(!decide (x=0))=(x != 0):=by
    by_cases h:x=0
    ·rw [h];rfl
    ·rw [aam h,bne_iff_ne.mpr h];rfl
   rw [e]
   exact kc _ (aj.refl _)
  have eb:(ks.map fun k=>val k.1 k.2 rp).map (fun x=>V.bl (x != 0))=(ks.map fun k=>val k.1 k.2 rp != 0).map V.bl:=by rw [aaS,aaS];rfl
  rw [eb] at m4
  left
  refine VQ (aP.of m4) ?_
  have eh:(ks.map fun k=>val k.1 k.2 rp != 0).any id=decide (Hr ks rp):=by
   rw [List.any_map]
   by_cases h:Hr ks rp
   ·rw [aan h]
    obtain ⟨k,hk,hv⟩:=h
    exact any_eq_true.mpr ⟨k,hk,bne_iff_ne.mpr hv⟩
   ·rw [aam h]
    refine List.any_eq_false.mpr fun k hk=>?_
    intro z
    exact h ⟨k,hk,bne_iff_ne.mp z⟩
  rw [eh]
  left
  refine aW (fun h4=>?_) (fun h4=>?_)
  ·left
   exact k1 i H4 hil (by rw [e1];exact aak h4) iI (s2.trans (s3.trans s4))
  ·refine⟨_,_,rfl,s2.trans (s3.trans s4),fun j hj=>?_⟩
   by_cases c:j<i
   ·exact iI j c
   ·obtain rfl:j=i:=by lia
    rw [e1]
    exact aal h4
 obtain ⟨o1,o2,rfl,sn,iI⟩:=hp
 left
 refine k2 Hn (fun r hr=>?_) sn
 obtain ⟨j,hj,e⟩:=aa6 hr
 have:=iI j aaa
 rw [List.getD,aat hj] at this
 rw [<- e]
 exact this
theorem i7:A1 P w K mg base 5 "span_read" ["text"] (fq K):=by
 have S:=zI
 refine T.BM.F8 S (fun vs H Q E h=>?_) (fun f bf A outer s H vs Q E hr h=>?_)
 ·obtain ⟨_,rfl,_⟩:=h;rfl
 ·obtain ⟨z,rfl,hz,k1,k2⟩:=h
  refine⟨_,(ag (cy 1 S.nd (aD (xa T) (hr.mono aa8) (aa (pv 0) (aa (aH (v:=V.int 60) rfl T.jU ⟨_,rfl⟩) af)))) (ag (bj (ptr PD (pv 1) yb) (ai (fO T.cH.i PySem.F.excBase_ValueError TH PySem.F.excBase_ValueError rfl (fun _ _ z=>z) rfl rfl T.jV (aa aG af))) aK) (ai (au (dE (D7 T) (hr.mono aa8) (fun _ _ z=>z) rfl (aa (dE (Hf T) (hr.mono aa8) (fun _ _ z=>z) rfl (aa (cX K (pv 1) ah) (aa (cX K (pv 1) ah) af))) af)))))),?_⟩
  left
  refine hJ.c ⟨hz,aa8⟩ ⟨fun t b ht p1 H1 s1 m1=>?_,fun hn H1 s1=>?_⟩
  ·have hb:=bz.Jr aa8 ht
   obtain ⟨c0,c1,c2,c3,c4,d0,d1,d2,d3,d4,m,m',et,eb,hm,lC,k3,k4,k5⟩:=k2 t b ht
   left
   refine⟨rfl,?_⟩
   left
   rw [if_neg (show ¬ decide (V.ref p1=V.cJ)=true by rw [aam (fun h=>nomatch h)];decide)]
   left
   refine pJ.c (.inr ⟨et,eb,hm,lC⟩) (fun C H2 hC s2 hr=>?_) (fun p2 H2 s2 t1 b1 hmm m2=>?_)
   ·exact⟨_,rfl,k3 aaa _ _ hC (s1.trans s2)⟩
   ·left
    refine mL.c (aC.of m2) (fun hf C H3 hC s3=>⟨_,rfl,k4 hmm hf _ _ hC ((s1.trans s2).trans s3)⟩) (fun hf H3 s3=>?_)
    exact k5 hmm hf _ _ ((s1.trans s2).trans s3) (s3 _ _ m2)
  ·left
   refine⟨rfl,?_⟩
   left
   rw [if_pos aa8]
   left
   exact⟨aa8,k1 hn _ _ T.cH.ns s1⟩
theorem sg:A1 P w K mg base 6 "comma_answer" ["desk","words"] (rS K):=by
 have S:=rY
 refine T.uJ.F8 S (fun vs H Q E h=>?_) (fun f bf A outer s H vs Q E hr h=>?_)
 ·obtain ⟨R,⟨d,l,c,k,z,xs,rfl,hl,hD,hc,h6,ho⟩,hQ,hE⟩:=h;rfl
 ·obtain ⟨R,⟨d,l,c,k,z,xs,rfl,hl,hD,hc,h6,ho⟩,hQ,hE⟩:=h
  have bT:=T.bT
  have aM:=T.aM
  have aE:=T.aE
  have aS:=T.aS
  have aN:=T.aN
  refine⟨_,(ag (cy 2 S.nd (dE (i7 T) (hr.mono aa8) (fun _ _ z=>z) rfl (aa (cX K (pv 1) ah) af))) (ag (kM K rfl (pv 0) (dE (cN T) (hr.mono aa8) (fun _ _ z=>z) rfl (aa (aA gQ (gz K rfl (pv 0) rfl) (bP (aa (pv 2) af))) af)) rfl) (ai (au (aB b8 rfl T.jm boot_str (aa (ax (bQ K rfl) rfl T.cL PySem.boot_len (aa (gz K rfl (pv 0) rfl) af)) af)))))),?_⟩
  obtain ⟨C,dx,t1,t2,hC,hd⟩:=hD
  obtain rfl:C=G.bg:=by rw [Nm,T.jW] at hC;cases hC;rfl
  left
  rcases ho with ⟨rfl,ho⟩|⟨rfl,ho⟩|⟨r,rfl,hr,h7,h8⟩
  ·exact Lc fun C H' hC s=>⟨_,rfl,hE _ _ (ho _ _ hC s)⟩
  ·exact DU fun C H' hC s=>⟨_,rfl,hE _ _ (ho _ _ hC s)⟩
  refine j2 hr fun p H1 s1 m1=>?_
  have Th:=s1 _ _ hd
  have hc1:=s1 _ _ hc
  left
  rename_i q2 H2 n2 s2 m2 q3 H3 n3 s3 m3
  refine⟨_,_,rfl,aP.of m3,fun h=>?_,fun h C H' hC s=>⟨_,rfl,hE _ _ (h7 (by simp at h;lia) _ _ hC (((s1.trans s2).trans s3).trans s))⟩⟩
  have h5:xs.length<6:=by simp at h;lia
  have Wo:=s3 _ _ (s2 _ _ Th)
  have Wq:q3≠d:=fun z=>by rw [z,s2 _ _ Th] at n3;cases n3
  left
  refine kN Wo bT aM (aa2 rfl) ?_
  have cU:Ch d H3 (upd H3 d (.ins G.bg dx (d9 "commas" (.ref q3) [("commas",.ref c),("own_keys",.ref k),("tunes",t1),("chords",t2)]))):=d8
  have xU:upd H3 d (.ins G.bg dx (d9 "commas" (.ref q3) [("commas",.ref c),("own_keys",.ref k),("tunes",t1),("chords",t2)])) d=some (.ins G.bg dx [("commas",.ref q3),("own_keys",.ref k),("tunes",t1),("chords",t2)]):=aw
  generalize upd H3 d (.ins G.bg dx (d9 "commas" (.ref q3) [("commas",.ref c),("own_keys",.ref k),("tunes",t1),("chords",t2)]))=H4 at cU xU ⊢
  have mU:=cU _ _ Wq m3
  have pU:aC K H4 p (r.map V.int):=cU.tp Wo (fun _ z=>nomatch z) (fun _ _ z=>nomatch z) _ _ (aC.of (s3 _ _ (s2 _ _ m1)))
  left
  refine eZ (by rw [aaA];exact iY (by simp;lia)) ?_
  have e:=hQ _ _ (h8 h5 p q3 H4 (s1.new (s2.new n3)) Wq (fun b o n e=>cU _ _ n (s3 _ _ (s2 _ _ (s1 _ _ e)))) ⟨_,dx,_,_,hC,xU⟩ mU pU)
  rw [show (((xs++[V.ref p]).length:Nat):Int)=(xs.length:Int)+1 by simp]
  exact e
theorem sh:A1 P w K mg base 6 "sound_answer" ["desk","words"] (rT K):=by
 have S:=rZ
 refine T.uK.F8 S (fun vs H Q E h=>?_) (fun f bf A outer s H vs Q E hr h=>?_)
 ·obtain ⟨R,⟨d,l,c,k,ys,qs,r,rfl,hl,gp,hD,hk,hy,i8,ho⟩,hQ,hE⟩:=h;rfl
 ·obtain ⟨R,⟨d,l,c,k,ys,qs,r,rfl,hl,gp,hD,hk,hy,i8,ho⟩,hQ,hE⟩:=h
  have bT:=T.bT
  have aM:=T.aM
  have aE:=T.aE
  have aS:=T.aS
  have aN:=T.aN
  refine⟨_,(ai (au (fC PySem.F.plainAttrs_str PySem.F.slot_str_join PySem.F.type_str_join nQ aG (aa (kP ["number"] [none] (cW K rfl (aD (x9 T) (hr.mono aa8) (aa (gz K rfl (pv 0) rfl) (aa (dE (i7 T) (hr.mono aa8) (fun _ _ z=>z) rfl (aa (cX K (pv 1) ah) af)) af)))) (fun _ _ _ _ _=>(aq (i:=0) (nd ["number"]) rfl (Or.inl rfl))) (fun _ _ _ _ _=>rfl) (fun _ _ _ _ _=>(aB b8 rfl T.jm boot_str (aa (pv 0) af)))) af)))),?_⟩
  obtain ⟨C,dx,t1,t2,hC,hd⟩:=hD
  obtain rfl:C=G.bg:=by rw [Nm,T.jW] at hC;cases hC;rfl
  left
  refine j2 gp fun p H1 s1 m1=>?_
  have hk1:=s1 _ _ hk
  left
  refine kW.c ⟨aP.of hk1,hy.same s1,i8.1,fun q hq=>(i8.2 q hq).2.2.1,fun q hq=>⟨(i8.2 q hq).1,rP (M:=14) (pA (i8.2 q hq).2.1 aa8) aa8⟩,aC.of m1,(fX (M:=18) gp aa8 aa8).1,rP (M:=5) (fX gp aa8 aa8).2 aa8⟩ fun pv H2 s2 mv=>?_
  left
  refine el (fun x=>.str (nw x)) [] rfl mv (by have:=i8.1;simp;lia) (fun x H' Qc hx s kc=>?_) (fun l3 H3 n3 s3 m3=>?_)
  ·obtain ⟨q,hq,rfl⟩:=aaD.mp hx
   left
   exact eZ (Ff (i8.2 q hq) gp) (kc _ (aj.refl _))
  have l6:=i8.1
  have hz:∀ z∈(qs.map fun q=>nw (val q.1 q.2 r)),z.length<=7:=fun z hz=>by
   obtain ⟨q,hq,rfl⟩:=aaD.mp hz
   exact ur (DA (i8.2 q hq) gp)
  left
  refine y0 (zs:=qs.map fun q=>nw (val q.1 q.2 r)) (by rw [m3,aaS,aaS];rfl) aa8 (by have:=DB hz;rw [aaz] at *;lia) ?_
  exact hQ _ _ (ho _ ((s1.trans s2).trans s3))
theorem mV:Ok P w K mg base 34 "lowered" ["vector","step","place"] (uQ K):=by
 have S:=DZ
 have Y:=T.Y
 refine T.GW.ok S (fun vs H Q E h=>?_) (fun f bf A outer s H vs Q E hr h=>?_)
 ·obtain ⟨_,_,_,_,_,_,_,_,rfl,_⟩:=h;rfl
 ·obtain ⟨a,b,p,n,M,k,v,s,rfl,ha,hb,lv,ls,hn,hp,h0,bv,bs,hM,hk,kk⟩:=h
  refine⟨_,(ai (au (aD (Fo T) (hr.mono aa8) (aa (pv 0) (aa (aD (Ca T) (hr.mono aa8) (aa (pv 1) (aa (aA (Bg Y rfl rfl rfl rfl rfl (hr.mono aa8)) (cX K (pv 0) (pv 2)) (cX K (pv 1) (pv 2))) af))) af))))),?_⟩
  walk_at "v"
  refine jk ha (aX (int_at aaa)) ?_
  walk_at "v"
  refine jk hb (aX (int_at aaa)) ?_
  left
  refine Fl s hb aaa (fun x hx=>?_) fun p1 H1 s1 m1=>?_
  ·have b1:eT x<=k:=by
    rw [cB]
    exact fH (aaG (mI bs hx) hM)
   have b2:eT ((v.getD p 0).fdiv (s.getD p 0))<=k:=by
    rw [cB]
    exact fH (aaG (aag (kF _ h0) (bv p)) hM)
   unfold qv
   lia
  left
  refine Lb v (bH s ((v.getD p 0).fdiv (s.getD p 0))) (s1.at ha) (aC.of m1) (by rw [lv,aF ls]) aaa fun p2 H2 s2 m2=>?_
  exact kk _ _ (s1.trans s2) m2
theorem Hg:Ok P w K mg base 34 "key_of" ["weights","ring"] (G3 K):=by
 have S:=G8
 have Y:=T.Y
 refine T.K7.lD S fun f bf A outer s H vs Q E hr h=>?_
 obtain @⟨a,ws,ring,C,⟨ha,h5,Z9,⟨z,HH,Ux⟩,LP,gp⟩,k⟩:=h
 refine⟨_,(ag (eX (i:=2) S.nd rfl (Or.inr rfl) (aD (w8 T) (hr.mono aa8) (aa (aA (nJ K rfl) (bA (aa (pv 1) af)) (pv 0)) af))) (ag (cy 3 S.nd (aB (cc K rfl) rfl T.cC boot_tuple (aa (kP ["number","divisor"] [none,some 2] (cW K rfl (pv 0)) (fun _ _ _ _ _=>(aq (i:=0) (nd ["number","divisor"]) rfl (Or.inl rfl))) (fun _ _ _ _ _=>rfl) (fun _ _ _ _ _=>(aA (oY Y rfl rfl rfl rfl rfl (hr.mono aa8)) (pv 0) (pv 1)))) af))) (ag (bj (ptr bI (pv 1) ah) (ai (au (bA (aa (pv 3) (aa ah af))))) aK) (ai (au (bA (aa (aB (cc K rfl) rfl T.cC boot_tuple (aa (kP ["number","ring","divisor"] [none,some 1,some 2] (cW K rfl (pv 3)) (fun _ _ _ _ _=>(aq (i:=0) (nd ["number","ring","divisor"]) rfl (Or.inl rfl))) (fun _ _ _ _ _=>rfl) (fun _ _ _ _ _=>(aA bE (pv 0) (aA (oY Y rfl rfl rfl rfl rfl (hr.mono aa8)) (pv 1) (pv 2))))) af)) (aa (aA (oY Y rfl rfl rfl rfl rfl (hr.mono aa8)) (pv 1) (pv 2)) af)))))))),?_⟩
 have hg:0<lE (ring::ws):=Kz HH Ux
 have XN:(0:Int)<(lE (ring::ws):Nat):=by lia
 left
 rename_i p1 H1 s1 m1
 refine yL (aC.of m1) (s1.at ha) (cons_ne_nil _ _) (fun z=>by rw [map_eq_nil_iff] at z;rw [z] at h5;simp at h5) (by simp;lia) fun p2 H2 s2 m2=>?_
 left
 refine hZ.c (zs:=ring::ws) (aC.of m2) ?_
 generalize hgd:lE (ring::ws)=g at hg XN ⊢
 have v8:=s1.trans s2
 left
 refine el (r:=ws) (fun x=>.int (x / (g:Int))) [some (.int g)] rfl (v8.at ha) aaa (fun x H' Qc hx s kc=>?_) (fun l3 H3 n3 s3 m3=>?_)
 ·left
  exact kc _ (aj.refl _)
 have eq3:ws.map (fun x=>V.int (x / (g:Int)))=(ws.map (· / (g:Int))).map V.int:=by rw [aaS];rfl
 rw [eq3] at m3
 have lq:(ws.map (· / (g:Int))).length=5:=by simp [h5]
 have So:ws=bH (ws.map (· / (g:Int))) g:=by
  unfold bH
  rw [aaS]
  conv=>lhs;rw [<- List.map_id ws]
  refine aaT fun x hx=>?_
  have hd:((lE (ring::ws):Nat):Int) ∣ x:=ui (aaB _ hx)
  rw [hgd] at hd
  exact (Int.ediv_mul_cancel hd).symm
 have hdr:(g:Int) ∣ ring:=by
  have hd:((lE (ring::ws):Nat):Int) ∣ ring:=ui (mem_cons_self ..)
  rw [hgd] at hd
  exact hd
 have hqb:∀ x∈ws.map (· / (g:Int)),x.natAbs<=2 ^ C:=fun x hx=>by
  obtain ⟨y,hy,rfl⟩:=aaD.mp hx
  obtain ⟨j,hj,e⟩:=aa6 hy
  have h1:=LP j
  rw [List.getD,aat hj,e] at h1
  have h2:=kF y (show (g:Int)≠0 by lia)
  rw [aas _ aaa] at h2
  exact aag h2 h1
 generalize ws.map (· / (g:Int))=q at m3 lq So hqb
 left
 rename_i p4 H4 s4 m4
 refine aW (fun h4=>?_) (fun h4=>?_)
 ·have hz:=aak h4
  left
  rename_i p5 H5 s5 m5
  refine k p5 p4 0 q H5 (((v8.trans s3).trans s4).trans s5) (aC.of m5) (aC.of (s5 _ _ m4)) (by rw [hz];exact KD XN lq So) fun x hx=>?_
  rw [cB]
  exact fH (aaG (hqb x hx) (pow_lt_pow_right aa8 (lt_succ_self _)))
 ·have hz:=aal h4
  have Tw:0<ring:=by lia
  have hmp:0<ring / (g:Int):=Int.ediv_pos_of_pos_of_dvd Tw aaa hdr
  have hmr:ring=(g:Int)*(ring / (g:Int)):=(Int.mul_ediv_cancel' hdr).symm
  have hml:(ring / (g:Int)).natAbs<=2 ^ C:=by
   have h2:=kF ring (show (g:Int)≠0 by lia)
   rw [aas _ aaa] at h2
   lia
  left
  refine el (r:=q) (fun x=>.int (x % (ring / (g:Int)))) [some (.int ring),some (.int g)] rfl (aC.of m4) aaa (fun x H' Qc hx s kc=>?_) (fun l5 H5 n5 s5 m5=>?_)
  ·left
   exact kc _ (aj.refl _)
  have eq5:q.map (fun x=>V.int (x % (ring / (g:Int))))=(q.map (· % (ring / (g:Int)))).map V.int:=by rw [aaS];rfl
  rw [eq5] at m5
  left
  rename_i p6 H6 s6 m6 p7 H7 s7 m7
  refine k p7 p6 (ring / (g:Int)) (q.map (· % (ring / (g:Int)))) H7 (((((v8.trans s3).trans s4).trans s5).trans s6).trans s7) (aC.of m7) (aC.of (s7 _ _ m6)) (by have:=KG XN hmp lq So;rw [<- hmr] at this;exact this) fun x hx=>?_
  obtain ⟨y,hy,rfl⟩:=aaD.mp hx
  have b1:=emod_nonneg y (show ring / (g:Int)≠0 by lia)
  have b2:=emod_lt_of_pos y hmp
  rw [cB]
  refine fH (aaG (m:=2 ^ C) ?_ (pow_lt_pow_right aa8 (lt_succ_self _)))
  lia
theorem Hh:Ok P w K mg base 35 "parted" ["vectors","place"] (G2 K):=by
 have S:=G9
 have B:=T.K4
 refine T.uG.ok S (fun vs H Q E h=>?_) (fun f A outer s H vs Q E hr h=>?_)
 ·obtain @⟨l,p,n,M,A,k,xs,rs,⟨hl,eU,LO,iB,hn,hp,iD,hA,Qz,hMk,hk,hT⟩,kk⟩:=h;rfl
 ·obtain @⟨l,p,n,M,A,k,xs,rs,⟨hl,eU,LO,iB,hn,hp,iD,hA,Qz,hMk,hk,hT⟩,kk⟩:=h
  have hu:=Iw hr
  refine⟨_,(ag (iP (k:=2) (N:=["vector","place"]) (ix:=[none,some 1]) S.nd rfl (Or.inl rfl) rfl (aR K rfl (pv 0)) (fun _ _ _ _ _=>(aq (i:=0) (show N6 ["vector","place"] by decide +kernel) rfl (Or.inl rfl))) (fun _ _ _ _ _=>(gv gu (xu (C0 K rfl) (pv 0) (pv 1) (fun _ _=>rfl)) ah (tj _))) (fun _ _ _ _ _=>(pv 0)) rfl TH TH rfl ⟨⟨rfl,Or.inr (Or.inl rfl),rfl,rfl⟩,True.intro⟩) (ag (iP (k:=3) (N:=["vector","place"]) (ix:=[none,some 1]) S.nd rfl (Or.inl rfl) rfl (aR K rfl (pv 0)) (fun _ _ _ _ _=>(aq (i:=0) (show N6 ["vector","place"] by decide +kernel) rfl (Or.inl rfl))) (fun _ _ _ _ _=>(gv bI (xu (C0 K rfl) (pv 0) (pv 1) (fun _ _=>rfl)) ah (tj _))) (fun _ _ _ _ _=>(pv 0)) rfl TH TH rfl ⟨⟨rfl,Or.inr (Or.inl rfl),rfl,rfl⟩,True.intro⟩) (ag (sX PassesOwn.never (ptr El (ax (bQ K rfl) rfl T.cL PySem.boot_len (aa (pv 2) af)) ah) (ag (cy 2 S.nd (Go (k:=0) (q:="parted.<locals>.<lambda>") (lp:=V9) (y:="vector") (fns:=["place"]) (ixs:=[some 1]) K rfl rfl (hr.mono aa8) (pv 2) rfl B.1 B.2 (fun _ _ _ _ _=>rfl) (fun _ _ _ _=>(ax oU rfl T.KS boot_abs (aa (cX K (pv 0) (pv 1)) af))) rfl rfl rfl rfl TH rfl ⟨⟨rfl,Or.inr (Or.inl rfl),rfl,rfl⟩,True.intro⟩ rfl rfl T.KU boot_sorted)) (ag (eX (i:=4) S.nd rfl (Or.inr rfl) (cX K (pv 2) ah)) (ag (iP (k:=5) (N:=["vector","least","place"]) (ix:=[none,some 4,some 1]) S.nd rfl (Or.inl rfl) rfl (aR K rfl (cF (fM K rfl) (pv 2) (dz ah) dy)) (fun _ _ _ _ _=>(aq (i:=0) (show N6 ["vector","least","place"] by decide +kernel) rfl (Or.inl rfl))) (fun _ _ _ _ _=>rfl) (fun _ _ _ _ _=>(aD (mV T) (hr.mono aa8) (aa (pv 0) (aa (pv 1) (aa (pv 2) af))))) rfl TH TH rfl ⟨⟨rfl,Or.inr (Or.inl rfl),rfl,rfl⟩,⟨⟨rfl,Or.inr (Or.inl rfl),rfl,rfl⟩,True.intro⟩⟩) (ag (cy 2 S.nd (aA gQ (bP (aa (pv 4) af)) (kP ["vector","place"] [none,some 1] (aR K rfl (pv 5)) (fun _ _ _ _ _=>(aq (i:=0) (nd ["vector","place"]) rfl (Or.inl rfl))) (fun _ _ _ _ _=>(ptr gu (cX K (pv 0) (pv 1)) ah)) (fun _ _ _ _ _=>(pv 0))))) (ai (cy 3 S.nd (aA gQ (pv 3) (kP ["vector","place"] [none,some 1] (aR K rfl (pv 5)) (fun _ _ _ _ _=>(aq (i:=0) (nd ["vector","place"]) rfl (Or.inl rfl))) (fun _ _ _ _ _=>(ptr bI (cX K (pv 0) (pv 1)) ah)) (fun _ _ _ _ _=>(pv 0))))))))))) (ai (au (bA (aa (kP ["vector","place"] [none,some 1] (aR K rfl (pv 2)) (fun _ _ _ _ _=>(aq (i:=0) (nd ["vector","place"]) rfl (Or.inl rfl))) (fun _ _ _ _ _=>rfl) (fun _ _ _ _ _=>(fA (ptr qg (cX K (pv 0) (pv 1)) ah) (aD (Ca T) (hr.mono aa8) (aa (pv 0) (aa (xl oF ah) af))) (pv 0)))) (aa (pv 3) af)))))))),?_⟩
  left
  refine eN [some (.int p)] (fun v=>v.getD p 0 != 0) rfl hl eU aaa (fun a r H' Qt hr s ha kt=>?_) (fun a H' Qc s kc=>?_) (fun l1 H1 ys n1 s1 m1 r1=>?_)
  ·walk_at "v"
   refine jk ha (aX (int_at (by rw [iB r hr];exact hp))) ?_
   left
   exact kt _ (aj.refl _)
  ·left
   exact kc
  left
  have Ll:=eU.same s1
  refine eN [some (.int p)] (fun v=>v.getD p 0 == 0) rfl (s1.seq hl) Ll aaa (fun a r H' Qt hr s ha kt=>?_) (fun a H' Qc s kc=>?_) (fun l2 H2 zs n2 s2 m2 r2=>?_)
  ·walk_at "v"
   refine jk ha (aX (int_at (by rw [iB r hr];exact hp))) ?_
   left
   exact kt _ (aj.refl _)
  ·left
   exact kc
  walk_at "j"
  refine join (fun σ' H'=>∃ (o4 o5:Option V) (l1 l2:Addr) (ys zs:List V) (led os:List (List Int)),σ'=[some (.ref l),some (.int p),some (.ref l1),some (.ref l2),o4,o5]/\lO K H H'/\bR K H'/\H' l1=some (.lst ys)/\H' l2=some (.lst zs)/\az K H' ys led/\az K H' zs os/\PJ n p M A led os/\Eqv n rs (led++os)/\led.length+os.length<=rs.length/\led.length<=1/\∀ v∈led,at' p v<=A) (fun nx kn=>?_) (fun σ' H' hP=>?_)
  ·refine yM (fun m σ' H'=>∃ (o4 o5:Option V) (l1 l2:Addr) (ys zs:List V) (led os:List (List Int)),σ'=[some (.ref l),some (.int p),some (.ref l1),some (.ref l2),o4,o5]/\lO K H H'/\bR K H'/\H' l1=some (.lst ys)/\H' l2=some (.lst zs)/\az K H' ys led/\az K H' zs os/\PJ n p M A led os/\Eqv n rs (led++os)/\led.length+os.length<=rs.length/\(∀ v∈led,at' p v<=A)/\m=mz p led) (mz p (rs.filter fun v=>v.getD p 0 != 0)) ?_ (fun m σ' H' hw=>?_)
   ·have LK:=RZ (fun v:List Int=>v.getD p 0 == 0) rs
    refine⟨_,_,l1,l2,ys,zs,_,_,rfl,aU.of (s1.trans s2),hT.same (s1.trans s2),s2 _ _ m1,m2,r1.same s2,r2,⟨fun v hv=>?_,fun v hv=>?_,fun v hv=>?_,(fun v hv=>hA v (aaE.mp hv).1),.inl fun v hv=>?_⟩,Eqv.mem fun x=>?_,le_of_eq LK,fun v hv=>hA v (aaE.mp hv).1,rfl⟩
    ·exact (aax.mp hv).elim (fun z=>iB v (aaE.mp z).1) fun z=>iB v (aaE.mp z).1
    ·simpa using (aaE.mp hv).2
    ·simpa using (aaE.mp hv).2
    ·exact (aax.mp hv).elim (fun z=>iD v (aaE.mp z).1) fun z=>iD v (aaE.mp z).1
    ·rw [aax,aaE,aaE]
     constructor
     ·intro h
      by_cases e:x.getD p 0=0
      ·exact .inr ⟨h,by simpa using e⟩
      ·exact .inl ⟨h,by simpa using e⟩
     ·rintro (h|h) <;> exact h.1
   obtain ⟨o4,o5,l3,l4,LQ,Sr,led,os,rfl,qR,lK,e3,e4,r3,r4,Ae,hE,hlen,Wr,rfl⟩:=hw
   left
   refine aW (fun hc=>?_) (fun hc=>?_)
   ·refine Q1 ?_
    left
    have LI:1<LQ.length:=by have:=aak hc;lia
    have lys:=r3.length
    refine Kc (led.map fun v=>((at' p v:Nat):Int)) lK (aP.of e3) (by rw [aaz,r3.length]) aaa (fun i x nn hx hnn H5 s5=>?_) (fun pS H5 ysS s5 hT5 m5 so=>?_)
    ·obtain ⟨a,r,rfl,ha,hi⟩:=r3.get hx
     have er:nn=((at' p r:Nat):Int):=by rw [aaQ,hi] at hnn;exact (aaj hnn).symm
     subst er
     have Tv:=s5.at lK ha
     walk_at "v"
     refine jk Tv (aX (int_at (by rw [Ae.1 r (aav _ (mem_of hi))];exact hp))) ?_
     left
     refine⟨?_,aj.refl _⟩
     unfold at'
     congr 1
     split <;> lia
    obtain ⟨qs,rq,pq,wq⟩:=Bd (fun v=>((at' p v:Nat):Int)) r3 so (aj.refl _)
    have rq5:=rq.iz s5 lK
    have lq:=pq.length_eq
    obtain ⟨sL,rest,rfl⟩:∃ sL rest,qs=sL::rest:=by
     cases qs with
     | nil=>simp at lq;lia
     | cons x y=>exact⟨x,y,rfl⟩
    have hrne:rest≠[]:=fun z=>by rw [z] at lq;simp at lq;lia
    have hle:∀ v∈rest,at' p sL<=at' p v:=fun v hv=>by have:=(aa3.mp wq).1 v hv;lia
    obtain ⟨tPI,tmz,tE⟩:=Ae.turn Qz pq hrne hle
    have e4':=s5.lst lK e4
    have r4':=r4.iz s5 lK
    obtain ⟨aL,ysR,rfl,haL,hR⟩:=rq5.Ry
    have mq:∀ v,v∈sL::rest->v∈led:=fun v hv=>pq.mem_iff.mp hv
    have hB:=Ae.bd Qz
    have lsL:sL.length=n:=Ae.1 sL (aav _ (mq sL (.head _)))
    have lrs:∀ v∈rest,v.length=n:=fun v hv=>Ae.1 v (aav _ (mq v (aaB _ hv)))
    have lrest:rest.length<=63:=by have:=lq;simp at this;lia
    left
    refine dY (aP.of m5) (aX (j:=0) rfl) ?_
    left
    rename_i p6 H6 n6 s6 m6
    refine iR [some (.ref aL),some (.int p)] (bC p sL) rfl (aP.of m6) (hR.same s6) aaa (fun a r H7 Qc hr s7 ha kc=>?_) (fun l7 H7 XO n7 s7 m7 r7=>?_)
    ·left
     exact pM r sL ha ((s6.trans s7).at haL) (lrs r hr) lsL hn hp (Ae.2.1 sL (mq sL (.head _))) (hB r (aav _ (mq r (aaB _ hr)))) (hB sL (aav _ (mq sL (.head _)))) hMk hk fun p8 H8 s8 m8=>kc _ _ s8 (aC.of m8)
    have ll7:∀ r∈rest.map (bC p sL),r.length=n:=fun r hr=>by
     obtain ⟨u,hu,rfl⟩:=aaD.mp hr
     exact fI (lrs u hu) lsL
    left
    rename_i p8 H8 n8 s8 m8
    refine eN [some (.int p)] (fun v=>v.getD p 0 != 0) rfl (aP.of (s8 _ _ m7)) (r7.same s8) (by rw [aaz];lia) (fun a r H9 Qt hr s9 ha kt=>?_) (fun a H9 Qc s9 kc=>?_) (fun l9 H9 ys9 n9 s9 m9 r9=>?_)
    ·walk_at "v"
     refine jk ha (aX (int_at (by rw [ll7 r hr];exact hp))) ?_
     left
     exact kt _ (aj.refl _)
    ·left
     exact kc
    have cnt:=Ky p sL rest
    have lq':rest.length+1=led.length:=by simpa using lq
    have l9':ys9.length=(cq p sL rest).length:=r9.length.symm
    left
    rename_i p10 Yx n10 Xe Tt
    have Ss:=(s8.trans s9).trans Xe
    refine eN [some (.int p)] (fun v=>v.getD p 0 == 0) rfl (aP.of (Ss _ _ m7)) (r7.same Ss) (by rw [aaz];lia) (fun a r H9 Qt hr s9 ha kt=>?_) (fun a H9 Qc s9 kc=>?_) (fun l11 H11 Ws n11 Xf m11 r11=>?_)
    ·walk_at "v"
     refine jk ha (aX (int_at (by rw [ll7 r hr];exact hp))) ?_
     left
     exact kt _ (aj.refl _)
    ·left
     exact kc
    have l11':Ws.length=(fi p sL rest).length:=r11.length.symm
    have lz:Sr.length=os.length:=r4.length.symm
    have Wt:=((s6.trans s7).trans Ss).trans Xf
    left
    refine JA (Wt _ _ e4') m11 aaa fun p12 H12 n12 v8 m12=>?_
    have N8:=Wt.trans v8
    refine⟨_,tmz,_,_,p10,p12,.ref aL::ys9,Sr++Ws,sL::cq p sL rest,os++fi p sL rest,rfl,qR.trans (s5.trans (aU.of N8)),hT5.same N8,v8 _ _ (Xf _ _ Tt),m12,.cons (N8.at haL) (r9.same ((Xe.trans Xf).trans v8)),(r4'.same N8).append (r11.same v8),tPI,hE.trans tE,by simp;lia,fun v hv=>?_,rfl⟩
    rcases aaC.mp hv with rfl|hv
    ·exact Wr _ (mq _ (.head _))
    ·obtain ⟨u,hu,rfl⟩:=aaD.mp (aaE.mp hv).1
     exact aag (aai (nB (lrs u hu) lsL (Ae.2.1 sL (mq sL (.head _))))) (Wr _ (mq _ (.head _)))
   ·exact kn _ _ ⟨o4,o5,l3,l4,LQ,Sr,led,os,rfl,qR,lK,e3,e4,r3,r4,Ae,hE,hlen,by have:=r3.length;have:=aal hc;lia,Wr⟩
  obtain ⟨o4,o5,l3,l4,LQ,Sr,led,os,rfl,qR,lK,e3,e4,r3,r4,Ae,hE,hlen,h1,Wr⟩:=hP
  have hB:=Ae.bd Qz
  left
  refine iR [some (.int p)] (jH p) rfl (aP.of e3) r3 aaa (fun a r H7 Qc hr s7 ha kc=>?_) (fun l7 H7 XO n7 s7 m7 r7=>?_)
  ·have lr:=Ae.1 r (aav _ hr)
   walk_at "v"
   refine jk ha (aX (int_at (by rw [lr];exact hp))) ?_
   left
   refine aW (fun hc=>?_) (fun hc=>?_)
   ·left
    refine Fl r ha aaa (fun x hx=>?_) fun p8 H8 s8 m8=>kc _ _ s8 ?_
    ·have b1:eT x<=k:=by
      rw [cB]
      exact fH (aaG (mI (hB r (aav _ hr)) hx) hMk)
     have b2:eT (-1)<=1:=by decide
     unfold qv
     lia
    ·unfold jH
     rw [if_pos (aak hc)]
     exact aC.of m8
   ·left
    refine kc _ _ (aj.refl _) ?_
    unfold jH
    rw [if_neg (aal hc)]
    exact ha
  left
  rename_i p8 H8 s8 m8
  have XQ:=s7.trans s8
  have mp:∀ v∈led.map (jH p),∃ u∈led,jH p u=v:=fun v hv=>by obtain ⟨u,hu,e⟩:=aaD.mp hv;exact⟨u,hu,e⟩
  refine kk p8 l7 l4 H8 XO Sr (led.map (jH p)) os (qR.trans (aU.of XQ)) (lK.same XQ) (aC.of m8) (aP.of (s8 _ _ m7)) (r7.same s8) (aP.of (XQ _ _ e4)) (r4.same XQ) (by rw [aaz];exact h1) (fun v hv=>?_) Ae.2.2.1 (fun v hv=>?_) (fun v hv=>?_) (hE.trans ?_) (by rw [aaz];exact hlen) (fun v hv=>by obtain ⟨u,hu,rfl⟩:=mp v hv;rw [NB];exact Wr u hu)
  ·obtain ⟨u,hu,rfl⟩:=mp v hv
   exact Kw (Ae.2.1 u hu)
  ·rcases aax.mp hv with z|z
   ·obtain ⟨u,hu,rfl⟩:=mp v z
    exact Kx (Ae.1 u (aav _ hu))
   ·exact Ae.1 v (aau _ z)
  ·rcases aax.mp hv with z|z
   ·obtain ⟨u,hu,rfl⟩:=mp v z
    exact NC (hB u (aav _ hu))
   ·exact hB v (aau _ z)
  ·match led,h1,Ae with
   | [],_,_=>exact Eqv.refl
   | [u],_,Ae =>
    show Eqv n (u::os) (jH p u::os)
    unfold jH
    split
    ·exact Eqv.flip (Ae.1 u (.head _))
    ·exact Eqv.refl
theorem D8:Ok P w K mg base 35 "left_by" ["steps","vector"] (DQ K):=by
 have S:=D3
 refine T.GY.lD S fun f bf A outer s H vs Q E hr h=>?_
 obtain @⟨l,a,n,B,C,xs,st,u,⟨hl,eU,ha,lu,hn5,hn,iB,h5,hsf,iD,hub,hBC⟩,k⟩:=h
 refine⟨_,(ag (cy 2 S.nd (pv 1)) (ag (ck PassesOwn.never rfl (aR K rfl (pv 0)) (aq (i:=3) S.nd rfl (Or.inl rfl)) (ai (cy 2 S.nd (aD (mV T) (hr.mono aa8) (aa (pv 2) (aa (pv 3) (aa (aD (eR T) (hr.mono aa8) (aa (cF (nN K rfl) (pv 3) dy (dz (aH (v:=V.int 5) rfl T.cM ⟨_,rfl⟩))) af)) af))))))) (ai (au (pv 2))))),?_⟩
 have lr:=eU.length
 left
 refine jF (xs:=xs) (fun i σ H2=>∃ (o:Option V) (p:Addr) (v:List Int),σ=[some (.ref l),some (.ref a),some (.ref p),o]/\aj H H2/\aC K H2 p (v.map V.int)/\LB n 5 st i u v/\bY (2 ^ (C+(B+1)*i)) v) ⟨_,a,u,rfl,aj.refl _,ha,LB.start lu,hub⟩ (fun i σ H2 hp=>by obtain ⟨o,p,v,rfl,s2,_⟩:=hp;exact s2.seq hl) (fun i x σ H2 hx hp=>?_) (fun σ H2 hp=>?_)
 ·obtain ⟨o,p,v,rfl,s2,mp,hv,Pg⟩:=hp
  obtain ⟨c,s,rfl,hc,hi⟩:=eU.get hx
  have hi5:i<5:=by have:=(aad.mp hi).1;lia
  have AM:=mem_of hi
  have ls:=iB s AM
  obtain ⟨kk,hk⟩:=hsf.1 (s.take 5) (aaD.mpr ⟨s,AM,rfl⟩)
  have hk5:=oO hk
  have h0:s.getD kk 0≠0:=by have:=hk.1;rw [cK _ hk5] at this;lia
  have LK:=s2.at hc
  have hBi:(B+1)*i<=(B+1)*4:=mul_le_mul_left _ aaa
  have hB1:(B+1)*(i+1)=(B+1)*i+(B+1):=by rw [mul_add,Nat.mul_one]
  left
  refine E3 LK fun p3 H3 s3 m3=>?_
  rw [show (some (5:Int))=some ((5:Nat):Int) from rfl,sI,<- map_take] at m3
  left
  refine cI.c m3 (by rw [aaO];lia) hk fun H4 s4=>?_
  left
  have LS:=s3.trans s4
  refine pM (M:=2 ^ (C+(B+1)*(i+1))) (k:=C+(B+1)*(i+1)+1) v s (LS.at mp) (LS.at LK) hv.len ls aaa aaa h0 (Pg.mono (aaF aa8 aaa)) ((iD s AM).mono (aaF aa8 aaa)) (pow_lt_pow_right aa8 (lt_succ_self _)) aaa fun p5 H5 s5 m5=>?_
  left
  refine⟨_,p5,_,rfl,s2.trans (LS.trans s5),aC.of m5,hv.step lu hi ls hsf hk,(yv hv.len ls h0 Pg (iD s AM)).mono ?_⟩
  rw [hB1,show C+((B+1)*i+(B+1))=B+(C+(B+1)*i)+1 by lia,pow_succ (n:=2) (m:=B+(C+(B+1)*i)),pow_add 2 B]
  have h3:(2:Nat) ^ (C+(B+1)*i)<=2 ^ B*2 ^ (C+(B+1)*i):=le_mul_of_pos_left _ (aaZ _)
  lia
 ·obtain ⟨o,p,v,rfl,s2,mp,hv,Pg⟩:=hp
  rw [<- lr] at hv
  left
  exact k _ _ v s2 mp hv (Pg.mono (aaF aa8 (Nat.add_le_add_left (mul_le_mul_left _ aaa) _)))
theorem pO:Ok P w K mg base 35 "keys_by_place" ["steps"] (pL K):=by
 have S:=pN
 refine T.rQ.lD S fun f bf A outer s H vs Q E hr h=>?_
 obtain @⟨l,b,xs,st,⟨hl,eU,sf,iB,h5,iD,Wu,hb⟩,k⟩:=h
 refine⟨_,(ag (eX (i:=1) S.nd rfl (Or.inr rfl) (aD (Cd T) (hr.mono aa8) (aa (pv 0) af))) (ag (eX (i:=2) S.nd rfl (Or.inr rfl) (aD (lH T) (hr.mono aa8) (aa (pv 0) af))) (ag (eX (i:=3) S.nd rfl (Or.inr rfl) (kP ["step"] [none] (aR K rfl (pv 0)) (fun _ _ _ _ _=>(aq (i:=0) (nd ["step"]) rfl (Or.inl rfl))) (fun _ _ _ _ _=>rfl) (fun _ _ _ _ _=>(aD (eR T) (hr.mono aa8) (aa (pv 0) af))))) (ag (iP (k:=4) (N:=["place","rows","whole","leads"]) (ix:=[none,some 1,some 2,some 3]) S.nd rfl (Or.inl rfl) rfl (dM rfl T.fo (aa (aH (v:=V.int 5) rfl T.cM ⟨_,rfl⟩) af)) (fun _ _ _ _ _=>(aq (i:=0) (show N6 ["place","rows","whole","leads"] by decide +kernel) rfl (Or.inl rfl))) (fun _ _ _ _ _=>rfl) (fun _ _ _ _ _=>(aD (Hg T) (hr.mono aa8) (aa (aD (vf T) (hr.mono aa8) (aa (pv 1) (aa (pv 0) (aa (pv 2) af)))) (aa (fA (gv (C1 K rfl) (pv 0) (pv 3) (by with_unfolding_all rfl)) (pv 2) ah) af)))) rfl TH TH rfl ⟨⟨rfl,Or.inr (Or.inl rfl),rfl,rfl⟩,⟨⟨rfl,Or.inr (Or.inl rfl),rfl,rfl⟩,⟨⟨rfl,Or.inr (Or.inl rfl),rfl,rfl⟩,True.intro⟩⟩⟩) (ai (au (kP ["key"] [none] (aR K rfl (pv 4)) (fun _ _ _ _ _=>(aq (i:=0) (nd ["key"]) rfl (Or.inl rfl))) (fun _ _ _ _ _=>(ptr gu (cX K (pv 0) ah) ah)) (fun _ _ _ _ _=>(pv 0))))))))),?_⟩
 have lr:=eU.length
 left
 refine jZ.c ⟨hl,eU,sf,iB,h5⟩ fun l1 H1 ys R n1 s1 m1 r1 Su=>?_
 have D9:=Su.YR iB
 have MZ:=Dx (b:=b) aaa
 have Q6:=KH hb
 have hdg:∀ (h:Nat) (r:List Int),R[h]?=some r->(r.getD h 0).natAbs<=2 ^ gs b (4 - h):=fun h r hr=>by
  rcases Su.at_ h r hr with ⟨z1,z2⟩|⟨_,z2⟩
  ·exact Wu r z1 h z2
  ·have hh:h<5:=by have:=(aad.mp hr).1;rw [Su.len] at this;exact this
   rw [z2,bN hh,if_pos rfl]
   exact aaZ _
 have Wn:∀ h,h<=5->(Pd R h).natAbs<=2 ^ 13400:=fun h hh=>aag (O6 (lam:=fun k=>gs b (4 - k)) D9 hdg (5 - h) h aaa) (aaF aa8 (aag (GI _ _ _ aaa) Q6))
 have OU:∀ k,gs b (4 - k)<9000:=fun k=>(ze (b:=b) aaa (show 4 - k<5 by lia)).1
 have hRb:∀ r∈R,bY (2 ^ ss b 5) r:=fun r hr=>by
  obtain ⟨h,hh,e⟩:=aa6 hr
  rcases Su.at_ h r (by rw [aat hh,e]) with ⟨z1,_⟩|⟨_,z2⟩
  ·exact iD r z1
  ·rw [z2];exact jC _ _ _
 have HI:=s1.seq hl
 have Ll:=eU.same s1
 left
 refine c9.c (W:=14000) ⟨HI,Ll,sf,iB,h5⟩ Su (fun h hh=>aaG (Wn h hh) (pow_lt_pow_right aa8 aa8)) (fun r hr kk hk=>aaG (Wu r hr kk hk) (pow_lt_pow_right aa8 (Nat.lt_of_lt_of_le (OU kk) aa8))) aa8 fun H2 s2=>?_
 obtain ⟨kz,hkz1,Sv⟩:=Bo sf.1
 have v8:=s1.trans s2
 have Iv:=v8.seq hl
 left
 refine dm (xs:=xs) [] (fun i=>.int ((kz.getD i 0:Nat):Int)) rfl Iv aaa (fun i x H' Qc hx s kc=>?_) (fun l3 H3 n3 s3 m3=>?_)
 ·obtain ⟨c,sv,rfl,hc,hi⟩:=(eU.same v8).get hx
  obtain ⟨kk,hk1,hk2⟩:=Sv i sv hi
  have ek:kz.getD i 0=kk:=by rw [List.getD,hk1];rfl
  rw [ek] at kc
  left
  exact cI.c (s.at hc) (by rw [iB sv (mem_of hi)];decide) hk2 fun H5 s5=>kc _ s5
 have ekz:(List.range xs.length).map (fun i=>V.int ((kz.getD i 0:Nat):Int))=kz.map fun (k:Nat)=>V.int (k:Int):=by
  rw [<- lr,<- hkz1]
  exact Gn kz 0 (fun (k:Nat)=>V.int (k:Int))
 rw [ekz] at m3
 have Ck:=s2.trans s3
 have m13:=Ck _ _ m1
 have r13:=r1.same Ck
 have iK:∀ p,p∈kz↔∃ s∈st,cG s p:=fun p=>by
  constructor
  ·intro hp
   obtain ⟨i,hi,e⟩:=aa6 hp
   have his:st[i]?=some (st[i]' aaa):=aat _
   obtain ⟨kk,hk1,hk2⟩:=Sv i _ his
   rw [aat hi,e] at hk1
   cases hk1
   exact⟨_,aa5 _,hk2⟩
  ·rintro ⟨s,hs,lX⟩
   obtain ⟨i,hi,e⟩:=aa6 hs
   obtain ⟨kk,hk1,hk2⟩:=Sv i s (by rw [aat hi,e])
   rw [lX.uniq hk2]
   exact aay hk1
 have hwp:0<Pd R 0:=CS D9 aa8
 left
 refine yY (K:=K) (n:=5) [some (.ref l1),some (.int (Pd R 0)),some (.ref l3)] (KP st R) rfl aa8 (fun p H' Qc hp s kc=>?_) (fun l4 H4 zs ks n4 s4 m4 hk4 Qk hP4=>?_)
 ·have m1':=s _ _ m13
  have XR:=s _ _ m3
  left
  refine f7.c (p:=p) (B:=ss b 5) (W:=13400) ⟨aP.of m1',r13.same s,D9,hRb,fun h r hr=>aaG (hdg h r hr) (pow_lt_pow_right aa8 (OU h)),Wn 0 aa8,aaa,aa8⟩ fun t H5 ws s5 mt Tx Pf LP=>?_
  have m3'':=s5 _ _ XR
  have hC:13400+5*(ss b 5+4)<=399999:=by lia
  have hwC:∀ j,(ws.getD j 0).natAbs<=2 ^ 399999:=fun j=>aag (LP j) (aaF aa8 hC)
  left
  refine OO (aP.of m3'') rfl (GH kz) ?_
  left
  refine aW (fun h4=>?_) (fun h4=>?_)
  ·have hin:=(iK p).mp (uj.mp h4)
   left
   exact kU.c (ring:=Pd R 0) (C:=399999) ⟨mt,Tx,Int.le_of_lt hwp,⟨Pd R 0,mem_cons_self ..,aaa⟩,hwC,aag (Wn 0 aa8) (aaF aa8 aa8)⟩ fun t6 ra m q H6 s6 m6 mq hKO CI=>kc t6 ra (q,m) H6 (s5.trans s6) m6 mq ⟨ws,Pd R 0,Pf,Tx,.inl ⟨hin,rfl⟩,hKO,CI⟩
  ·have Wv:∀ s∈st,¬ cG s p:=fun s hs lX=>by
    have:=uj.mpr ((iK p).mpr ⟨s,hs,lX⟩)
    rw [this] at h4
    cases h4
   obtain ⟨rp,Tw⟩:=FZ D9.len hp
   have hone:rp.getD p 0=1:=by
    have:=Su.one hp Wv
    rwa [iw Tw] at this
   have hwsp:ws.getD p 0=Pd R 0:=by
    have e1:=Pf.all D9 Tx p rp Tw
    rw [if_pos rfl,yw (D9.row rp (mem_of Tw)) Tx hp (fun i hi rK=>by
     rcases (show i<p\/p<i by lia) with c|c
     ·exact .inr (Pf.lo i aaa c)
     ·exact .inl (D9.zero p rp i Tw c)),hone,Int.one_mul] at e1
    exact e1
   left
   exact kU.c (ring:=0) (C:=399999) ⟨mt,Tx,Int.le_refl _,⟨ws.getD p 0,aaB _ (getD_mem aaa),aaa⟩,hwC,aa0 _⟩ fun t6 ra m q H6 s6 m6 mq hKO CI=>kc t6 ra (q,m) H6 (s5.trans s6) m6 mq ⟨ws,0,Pf,Tx,.inr ⟨Wv,rfl⟩,hKO,CI⟩
 left
 refine lN (K:=K) [] (fun k=>k.2 != 1) rfl (aP.of m4) hk4 aaa (fun a w kk H' Qt hkk s ha hw kt=>?_) (fun a H' Qc s kc=>?_) (fun l5 H5 us n5 s5 m5 hk5=>?_)
 ·left
  have e:(!decide (kk.2=1))=(kk.2 != 1):=by
   by_cases h:kk.2=1
   ·rw [h];rfl
   ·rw [aam h,bne_iff_ne.mpr h];rfl
  rw [e]
  exact kt _ (aj.refl _)
 ·left
  exact kc
 have N9:=((v8.trans s3).trans s4).trans s5
 exact k l5 H5 us _ (((v8.trans s3).trans s4).new n5) N9 m5 hk5 (aag (aa4 _ _) aaa) (GJ Su sf iB Qk hP4)
theorem i9:Ok P w K mg base 36 "stepped" ["vectors","size"] (DP K):=by
 have S:=D4
 refine T.GX.lD S fun f bf A outer s H vs Q E hr h=>?_
 obtain @⟨l,w,n,b,xs,rs,⟨hl,eU,LO,iB,hn,hw,iD,OU,hT⟩,kk⟩:=h
 refine⟨_,(ag (cy 2 S.nd (bP af)) (ag (cy 3 S.nd (pv 0)) (ag (ck PassesOwn.never rfl (Gq rfl T.fo (aa (aA lW (pv 1) ah) (aa (xl oF ah) (aa (xl oF ah) af)))) (aq (i:=4) S.nd rfl (Or.inr rfl)) (ag (cy 5 S.nd (aD (Hh T) (hr.mono aa8) (aa (pv 3) (aa (pv 4) af)))) (ag (cy 3 S.nd (cX K (pv 5) ah)) (ai (ck PassesOwn.never rfl (aR K rfl (cX K (pv 5) ah)) (aq (i:=6) S.nd rfl (Or.inr rfl)) (ai (cy 2 S.nd (aA gQ (kP ["step","lead","place"] [none,some 6,some 4] (aR K rfl (pv 2)) (fun _ _ _ _ _=>(aq (i:=0) (nd ["step","lead","place"]) rfl (Or.inl rfl))) (fun _ _ _ _ _=>rfl) (fun _ _ _ _ _=>(aD (mV T) (hr.mono aa8) (aa (pv 0) (aa (pv 1) (aa (pv 2) af)))))) (bP (aa (pv 6) af)))))))))) (ai (au (pv 2)))))),?_⟩
 left
 rename_i ls0 H1 n1 s1 m1
 refine Rx (fun i σ H'=>∃ (o1 o2 o3:Option V) (ls ll:Addr) (ys zs:List V) (st lf:List (List Int)),σ=[some (.ref l),some (.int w),some (.ref ls),some (.ref ll),o1,o2,o3]/\H ls=none/\lO K H H'/\bR K H'/\H' ls=some (.lst ys)/\az K H' ys st/\aP K H' ll zs/\az K H' zs lf/\SJ n w b rs i st lf) ⟨_,_,_,ls0,l,[],xs,[],rs,rfl,n1,aU.of s1,hT.same s1,m1,.nil,s1.seq hl,eU.same s1,SJ.start iB iD⟩ (fun i σ H' hi hp=>?_) (fun σ H' hp=>?_)
 ·obtain ⟨o1,o2,o3,ls,ll,ys,zs,st,lf,rfl,iI,sm,mZ,e1,r1,e2,r2,hI⟩:=hp
  have hiw:i<w:=by lia
  obtain ⟨p,hpp⟩:∃ p:Nat,(w:Int) - 1 - i=p:=⟨w - 1 - i,aaa⟩
  rw [hpp]
  have Te:p+i+1=w:=by lia
  have XN:=OU i hiw
  have hg2:gs b (i+1)=3*gs b i+3:=rfl
  have hg3:gs b (i+1)<=ss b (i+1):=by rw [ss];lia
  have c1:=hI.c1
  have c2:=hI.c2
  left
  refine pK.c (M:=2 ^ gs b i) (A:=2 ^ gs b i) (k:=gs b (i+1)) (n:=n) (p:=p) ⟨e2,r2,aaa,hI.UK,hn,aaa,hI.bl,(fun v hv=>hI.bl v hv p),aaZ _,kG b i,aaa,mZ⟩ fun t l1 l2 H3 LQ Sr led os qR lK mt q1 qr1 q2 qr2 h1 oQ h0 hlen Ph hE Lm AF=>?_
  have e13:=qR.lst mZ e1
  have r13:=r1.iz qR mZ
  have lq:=qr1.length
  have lst:=r1.length
  left
  refine jF (xs:=LQ) (fun j σ H4=>∃ (o3:Option V) (ls:Addr) (ys:List V),σ=[some (.ref l),some (.int w),some (.ref ls),some (.ref l2),some (.int p),some (.ref t),o3]/\H ls=none/\aj H3 H4/\H4 ls=some (.lst ys)/\az K H4 ys ((led.take j).foldl (fun st s=>st.map (bC p s)++[s]) st)) ⟨_,ls,ys,rfl,iI,aj.refl _,e13,r13⟩ (fun j σ H4 hp=>by obtain ⟨o3,ls,ys,rfl,_,s4,_⟩:=hp;exact s4.seq q1) (fun j x σ H4 hx hp=>?_) (fun σ H4 hp=>?_)
  ·obtain ⟨o4,ls4,XS,rfl,Ww,s4,e4,r4⟩:=hp
   have hj:j=0:=by have:=(aad.mp hx).1;lia
   subst hj
   rw [take_zero,List.foldl_nil] at r4
   obtain ⟨a,sv,rfl,ha,hi3⟩:=qr1.get hx
   have AM:=mem_of hi3
   have l4:=r4.length
   left
   refine iR [some (.ref a),some (.int p)] (bC p sv) rfl (aP.of e4) r4 aaa (fun a5 r5 H5 Qc Tv s5 Wl kc=>?_) (fun l7 H7 XO n7 s7 m7 r7=>?_)
   ·left
    exact pM (M:=2 ^ ss b (i+1)) (k:=ss b (i+1)+1) r5 sv Wl ((s4.trans s5).at ha) (hI.lst r5 Tv) (hlen sv (aav _ AM)) hn aaa (by have:=oQ sv AM;lia) ((hI.bs r5 Tv).mono (aaF aa8 (by rw [ss];lia))) ((Ph sv (aav _ AM)).mono (aag (aai (kG b i)) (aaF aa8 (by rw [ss];lia)))) (pow_lt_pow_right aa8 (lt_succ_self _)) aaa fun p8 H8 s8 m8=>kc _ _ s8 (aC.of m8)
   have l7':=r7.length
   rw [aaz] at l7'
   left
   rename_i p8 H8 n8 s8 m8 p9 H9 n9 s9 m9
   refine⟨_,p9,XO++[.ref a],rfl,?_,((s4.trans s7).trans s8).trans s9,m9,?_⟩
   ·exact sm.new mZ (qR.new lK (((s4.trans s7).trans s8).new n9))
   ·rw [take_snoc hi3]
    exact (r7.same (s8.trans s9)).append (.cons ((((s4.trans s7).trans s8).trans s9).at ha) .nil)
  ·obtain ⟨o4,ls4,XS,rfl,Ww,s4,e4,r4⟩:=hp
   rw [<- lq,aaN] at r4
   refine⟨_,_,_,ls4,l2,XS,Sr,_,os,rfl,Ww,sm.trans (qR.trans (aU.of s4)),lK.same s4,e4,r4,s4.seq q2,qr2.same s4,?_⟩
   match led,h1,hE,Lm,Ph,hlen,oQ,AF with
   | [],_,hE,Lm,Ph,hlen,_,_=>exact hI.none Te hE h0 hlen Ph (by simpa using Lm)
   | [s],_,hE,Lm,Ph,hlen,oQ,AF=>exact hI.one Te hw hE (oQ s (.head _)) h0 hlen Ph (by simp at Lm;lia) (AF s (.head _))
 ·obtain ⟨o1,o2,o3,ls,ll,ys,zs,st,lf,rfl,iI,sm,mZ,e1,r1,e2,r2,hI⟩:=hp
  rw [show ((w:Int) - 1 - -1).toNat=w by lia] at hI
  left
  exact kk ls H' ys st lf iI sm mZ e1 r1 hI
theorem si:Ok P w K mg base 37 "marked_table" ["commas"] (rR K):=by
 have S:=r6
 refine T.uH.lD S fun f bf A outer s H vs Q E hr h=>?_
 obtain @⟨l,b,xs,rs,⟨hl,eU,h6,iB,iD,hb,hT⟩,kk⟩:=h
 refine⟨_,(ag (eX (i:=1) S.nd rfl (Or.inr rfl) (dE (EX:=fun _ _ _=>False) (cN T) (hr.mono aa8) noraise rfl (aa (pv 0) af))) (ag (iP (k:=2) (N:=["place","comma","checked"]) (ix:=[none,none,some 1]) S.nd rfl (Or.inl rfl) rfl (nK K rfl false rfl T.gD (aa (pv 1) af)) (fun _ _ _ _ _=>(eM (n:=2) K rfl rfl (bq (aq (i:=0) (show N6 ["place","comma","checked"] by decide +kernel) rfl (Or.inl rfl)) (bq (aq (i:=1) (show N6 ["place","comma","checked"] by decide +kernel) rfl (Or.inl rfl)) eI)))) (fun _ _ _ _ _=>rfl) (fun _ _ _ _ _=>(aA (nJ K rfl) (pv 1) (aD (zL T) (hr.mono aa8) (aa (pv 0) (aa (ax (bQ K rfl) rfl T.cL PySem.boot_len (aa (pv 2) af)) af))))) rfl TH TH rfl ⟨⟨rfl,Or.inr (Or.inl rfl),rfl,rfl⟩,True.intro⟩) (ai (au (aD (i9 T) (hr.mono aa8) (aa (pv 2) (aa (aH (v:=V.int 5) rfl T.cM ⟨_,rfl⟩) af))))))),?_⟩
 have lr:=eU.length
 left
 refine eG hl aaa ?_
 left
 refine Be [some (.ref l)] (fun i r=>r++bF i rs.length) rfl hl eU aaa (fun i a r H' Qc hi s ha kc=>?_) (fun l2 H2 ys n2 s2 m2 r2=>?_)
 ·have fE:=s.seq hl
  have Tu:=iB r (mem_of hi)
  have hil:=(aad.mp hi).1
  left
  rw [<- lr]
  refine nX.c aaa fun p3 H3 s3 m3=>?_
  left
  refine yL (s3.at ha) (aC.of m3) (fun z=>by rw [map_eq_nil_iff] at z;rw [z] at Tu;simp at Tu) (fun z=>by rw [map_eq_nil_iff] at z;have:=bD i rs.length;rw [z] at this;simp at this;lia) (by simp [bD];lia) fun p4 H4 s4 m4=>?_
  rw [<- aaR] at m4
  exact kc _ _ (s3.trans s4) (aC.of m4)
 have mZ:=hT.same s2
 left
 refine eE.c (w:=5) (n:=5+rs.length) (b:=b) ⟨aP.of m2,r2,by rw [length_mapIdx];lia,md iB,aaa,aaa,xE iD,fun i hi=>lt_trans (ze hb hi).2 aa8,mZ⟩ fun l' H' ys' st lf hn sm Cj e r hI=>?_
 exact kk l' H' ys' st lf (s2.new hn) ((aU.of s2).trans sm) Cj e r hI
theorem Lp:Ok P w K mg base 37 "table" ["commas"] (K9 K):=by
 have S:=Li
 refine T.NP.lD S fun f bf A outer s H vs Q E hr h=>?_
 obtain @⟨l,b,xs,rs,⟨hl,eU,h6,iB,iD,hb,hT⟩,kk⟩:=h
 refine⟨_,(ai (au (aD (i9 T) (hr.mono aa8) (aa (dE (EX:=fun _ _ _=>False) (cN T) (hr.mono aa8) noraise rfl (aa (pv 0) af)) (aa (aH (v:=V.int 5) rfl T.cM ⟨_,rfl⟩) af))))),?_⟩
 have lr:=eU.length
 left
 refine eG hl aaa ?_
 left
 refine eE.c (w:=5) (n:=5) (b:=b) ⟨hl,eU,aaa,iB,aa8,aa8,iD,fun i hi=>lt_trans (ze hb hi).2 aa8,hT⟩ fun l' H' ys st lf hn sm Cj e r hI=>?_
 have hc:=hI.c2
 exact kk l' H' ys st hn sm Cj e r hI.all.1 hI.all.2 hI.lst hc hI.bs (fun v hv k hk=>hI.lb v hv k (by rw [aaU (le_of_eq (hI.lst v hv))];exact hk))
theorem xf:Ok P w K mg base 37 "lost_among" ["rows","key"] (wN K):=by
 have S:=wZ
 refine T.zp.lD S fun f bf A outer s H vs Q E hr h=>?_
 obtain @⟨l,kt,wa,b,m,xs,st,ws,⟨hl,eU,h5,hc5,iD,hkt,hwa,lw,hm0,CI,Pg,hmb,hb,hT⟩,k⟩:=h
 have jR:=T.jR
 refine⟨_,(ag (cy 2 S.nd (aA gQ (kP ["row","key"] [none,some 1] (aR K rfl (pv 0)) (fun _ _ _ _ _=>(aq (i:=0) (nd ["row","key"]) rfl (Or.inl rfl))) (fun _ _ _ _ _=>rfl) (fun _ _ _ _ _=>(aA (nJ K rfl) (pv 0) (bA (aa (aD (ve T) (hr.mono aa8) (aa (pv 1) (aa (pv 0) af))) af))))) (bP (aa (aA (nJ K rfl) (aH (v:=V.ref G.xX) rfl T.Fi rfl) (bA (aa (cX K (pv 1) ah) af))) af)))) (ai (au (kP ["vector"] [none] (aR K rfl (aD (i9 T) (hr.mono aa8) (aa (pv 2) (aa (aA lV (aH (v:=V.int 5) rfl T.cM ⟨_,rfl⟩) ah) af)))) (fun _ _ _ _ _=>(aq (i:=0) (nd ["vector"]) rfl (Or.inl rfl))) (fun _ _ _ _ _=>(ptr bI (cX K (pv 0) (aH (v:=V.int 5) rfl T.cM ⟨_,rfl⟩)) ah)) (fun _ _ _ _ _=>(cF (nN K rfl) (pv 0) dy (dz (aH (v:=V.int 5) rfl T.cM ⟨_,rfl⟩)))))))),?_⟩
 have lr:=eU.length
 left
 refine iR [some (.ref kt)] (fun r=>r++[val ws m r]) rfl hl eU aaa (fun a r H' Qc hr s ha kc=>?_) (fun l1 H1 ys n1 s1 m1 r1=>?_)
 ·have Tu:=h5 r hr
  left
  refine zC ws r (s.at hkt) (s.at hwa) ha aaa aaa (ue.mul (rP (iD r hr) (by lia:b<50001)) CI aa8 aaa) hm0 fun H2 s2=>?_
  left
  rename_i p3 H3 s3 m3
  refine yL ((s2.trans s3).at ha) (aC.of m3) (fun z=>by rw [map_eq_nil_iff] at z;rw [z] at Tu;simp at Tu) (by simp) (by simp;lia) fun p4 H4 s4 m4=>?_
  refine kc p4 H4 ((s2.trans s3).trans s4) ?_
  rw [aaR]
  exact aC.of m4
 have q1:=jR H1
 left
 rename_i pa Ha sa ma pb Hb sb mb pc Hc nc sc mc
 have s1c:=(sa.trans sb).trans sc
 have ly:=r1.length
 rw [aaz] at ly
 refine JA (s1c _ _ m1) mc (by simp;lia) fun l2 H2 n2 s2 m2=>?_
 have AN:az K H2 (ys++[.ref pb]) (valued (val ws m) st m):=(r1.same (s1c.trans s2)).append (.cons ((sc.trans s2).at (aC.of mb)) .nil)
 have v8:=(s1.trans s1c).trans s2
 have mZ:=hT.same v8
 have lv:(valued (val ws m) st m).length=st.length+1:=by simp [valued]
 have hlv:Len 6 (valued (val ws m) st m):=fun v hv=>by
  rcases aax.mp hv with z|z
  ·obtain ⟨r,hr,rfl⟩:=aaD.mp z
   simp [h5 r hr]
  ·rw [aaw.mp z];rfl
 have hbv:∀ v∈valued (val ws m) st m,bY (2 ^ b) v:=fun v hv=>by
  rcases aax.mp hv with z|z
  ·obtain ⟨r,hr,rfl⟩:=aaD.mp z
   exact tL (iD r hr) (zf fun x hx=>by rw [aaw.mp hx];exact Pg r hr)
  ·rw [aaw.mp z]
   exact tL (fun i=>by rw [ba];exact aa0 _) (zf fun x hx=>by rw [aaw.mp hx];exact hmb)
 left
 refine eE.c (w:=6) (n:=6) (b:=b) ⟨aP.of m2,AN,aaa,hlv,aa8,aa8,hbv,fun i hi=>Wa hb (aah _) hi,mZ⟩ fun l3 H3 LQ S lf n3 qR lK e3 r3 hI=>?_
 have hS:=hI.all
 have hc:=hI.c2
 left
 refine oZ [] (fun v=>v.getD 5 0 == 0) (List.take 5) rfl (aP.of e3) r3 aaa (fun a r H' Qt hr s ha kt=>?_) (fun a r H' Qc hr hf s ha kc=>?_) (fun l4 H4 us n4 s4 m4 r4=>?_)
 ·walk_at "v"
  refine jk ha (aX (j:=5) (int_at (by rw [hI.lst r hr];decide))) ?_
  left
  exact kt _ (aj.refl _)
 ·left
  refine E3 ha fun p5 H5 s5 m5=>?_
  rw [show (some (5:Int))=some ((5:Nat):Int) from rfl,sI,<- map_take] at m5
  exact kc p5 H5 s5 m5
 have Tz:=EN (f:=val ws m) h5 lw (fun r hr=>NG ws m r) hS.1 hI.lst hS.2
 exact k l4 H4 us _ (v8.new (qR.new lK n4)) ((aU.of v8).trans (qR.trans (aU.of s4))) (lK.same s4) m4 r4 Tz (SF.count Tz.sf fun r hr j hj=>CQ (Tz.len r hr) hj)
theorem gc:Ok P w K mg base 38 "rest_and_powers" ["commas","row"] (mO K):=by
 have S:=mS
 refine T.nV.lD S fun f bf A outer s H vs Q E hr h=>?_
 obtain @⟨l,a,b,R,xs,rs,row,⟨hl,eU,h6,iB,iD,hb,ha,jv,gp,hR,hT⟩,kk⟩:=h
 have hu:=Iw hr
 refine⟨_,(ag (cy 2 S.nd (aD (D8 T) (hr.mono aa8) (aa (aD (si T) (hr.mono aa8) (aa (pv 0) af)) (aa (aA (JS K rfl) (pv 1) (aB (cc K rfl) rfl T.cC boot_tuple (aa (kP ["comma"] [none] (aR K rfl (pv 0)) (fun _ _ _ _ _=>(aq (i:=0) (nd ["comma"]) rfl (Or.inl rfl))) (fun _ _ _ _ _=>rfl) (fun _ _ _ _ _=>ah)) af))) af)))) (ai (au (bA (aa (cF (nN K rfl) (pv 2) dy (dz (aH (v:=V.int 5) rfl T.cM ⟨_,rfl⟩))) (aa (kP ["number"] [none] (cW K rfl (cF (nN K rfl) (pv 2) (dz (aH (v:=V.int 5) rfl T.cM ⟨_,rfl⟩)) dy)) (fun _ _ _ _ _=>(aq (i:=0) (nd ["number"]) rfl (Or.inl rfl))) (fun _ _ _ _ _=>rfl) (fun _ _ _ _ _=>(xl oF (pv 0)))) af)))))),?_⟩
 have lr:=eU.length
 left
 refine fg.c ⟨hl,eU,h6,iB,iD,hb,hT⟩ fun l1 H1 ys st lf n1 LU Gj e1 r1 hI=>?_
 have HI:=LU.seq hT hl
 have GA:=LU.at hT ha
 left
 refine dm (xs:=xs) [] (fun _=>.int 0) rfl HI aaa (fun i x H' Qc hx s kc=>?_) (fun l2 H2 n2 s2 m2=>?_)
 ·left
  exact kc _ (aj.refl _)
 have ez:(List.range xs.length).map (fun _=>V.int 0)=(cz rs.length).map V.int:=by rw [map_const',aaL,cz,map_replicate,lr]
 rw [ez] at m2
 left
 rename_i p3 H3 s3 m3
 have Ck:=s2.trans s3
 refine Ri (Ck.at GA) (aC.of m3) (by simp [jv,cz];lia) fun p4 H4 s4 m4=>?_
 rw [<- aaR] at m4
 have TB:=Ck.trans s4
 have hc:=hI.c2
 have lu:(row++cz rs.length).length=5+rs.length:=by rw [aaA,jv,aI]
 have MZ:=(ze hb (show 4<5 by decide)).2
 left
 refine mM.c (n:=5+rs.length) (B:=ss b 5) (C:=R) ⟨aP.of (TB _ _ e1),r1.same TB,m4,lu,aaa,aaa,hI.lst,hc,hI.sf,hI.bs,tL gp (fun i=>by rw [ba];exact aa0 _),by have:=Dx hb;lia⟩ fun p5 H5 v s5 m5 hLB Pg=>?_
 obtain ⟨q1,q2,q3,q4⟩:=hLB.rest iB jv hI
 obtain ⟨g1,g2,_⟩:=hI.made iB
 have s15:=TB.trans s5
 left
 refine E3 m5 fun p6 H6 s6 m6=>?_
 rw [show (some (5:Int))=some ((5:Nat):Int) from rfl,sI,<- map_take] at m6
 left
 refine E3 (s6.at m5) fun p7 H7 s7 m7=>?_
 rw [show (some (5:Int))=some ((5:Nat):Int) from rfl,Nd,<- List.map_drop] at m7
 have lv:=hLB.len
 left
 refine el (r:=v.drop 5) (fun x=>.int (-x)) [] rfl m7 (by rw [length_drop];lia) (fun x H' Qc hx s kc=>?_) (fun l8 H8 n8 s8 m8=>?_)
 ·left
  exact kc _ (aj.refl _)
 have en:(v.drop 5).map (fun x=>V.int (-x))=((v.drop 5).map fun x=>-x).map V.int:=by rw [aaS];rfl
 rw [en] at m8
 left
 rename_i p9 H9 s9 m9
 have N9:=((s15.trans s6).trans (s7.trans s8)).trans s9
 refine kk p9 p6 l8 H9 (v.take 5) _ (st.map (List.take 5)) (LU.trans (aU.of N9)) (Gj.same N9) (aC.of m9) ((s7.trans (s8.trans s9)).at m6) (s9 _ _ m8) ?_ (by rw [aaz,length_drop,lv];lia) (fun x hx=>?_) q4 g1 (fun r hr=>?_) g2 q1 q2 q3
 ·exact LU.new Gj ((s15.trans (s6.trans s7)).new n8)
 ·obtain ⟨y,hy,rfl⟩:=aaD.mp hx
  have h1:=mI Pg (List.mem_of_mem_drop hy)
  rw [Int.natAbs_neg]
  exact aag h1 (aaF aa8 (by have:=Dx hb;lia))
 ·obtain ⟨u,hu,rfl⟩:=aaD.mp hr
  exact bx (hI.lst u hu) aaa
theorem Oa:Ok P w K mg base 38 "lost" ["keys"] (NW K):=by
 have S:=N3
 refine T.Se.lD S fun f bf A outer s H vs Q E hr h=>?_
 obtain @⟨l,W,xs,ks,⟨hl,hk,h6,hg,hw,hW,hT⟩,k⟩:=h
 refine⟨_,(ag (cy 1 S.nd (aD (i9 T) (hr.mono aa8) (aa (kP ["place"] [none] (dM rfl T.fo (aa (aH (v:=V.int 5) rfl T.cM ⟨_,rfl⟩) af)) (fun _ _ _ _ _=>(aq (i:=0) (nd ["place"]) rfl (Or.inl rfl))) (fun _ _ _ _ _=>rfl) (fun _ _ _ _ _=>(aD (zL T) (hr.mono aa8) (aa (pv 0) (aa (aH (v:=V.int 5) rfl T.cM ⟨_,rfl⟩) af))))) (aa (aH (v:=V.int 5) rfl T.cM ⟨_,rfl⟩) af)))) (ag (ck PassesOwn.never rfl (aR K rfl (dE (EX:=fun _ _ _=>False) (dB T) (hr.mono aa8) noraise rfl (aa (pv 0) af))) (aq (i:=2) S.nd rfl (Or.inl rfl)) (ai (cy 1 S.nd (aD (xf T) (hr.mono aa8) (aa (pv 1) (aa (pv 2) af)))))) (ai (au (pv 1))))),?_⟩
 have lk:=hk.length
 left
 refine lM (K:=K) (n:=5) [] (fun i=>bF i 5) rfl aa8 (fun i H' Qc hi s kc=>?_) (fun l1 H1 ys n1 s1 m1 r1=>?_)
 ·left
  exact nX.c (n:=5) aa8 fun p H5 s5 m5=>kc _ _ s5 (aC.of m5)
 have Gj:=hT.same s1
 left
 refine eE.c (w:=5) (n:=5) (b:=0) ⟨aP.of m1,r1,by simp,fun v hv=>by obtain ⟨i,_,rfl⟩:=aaD.mp hv;exact bD _ _,aa8,aa8,fun v hv=>by obtain ⟨i,_,rfl⟩:=aaD.mp hv;exact jC _ _ _,fun i hi=>Wa aa8 aa8 hi,Gj⟩ fun l2 H2 ys2 st0 lf n2 OT mZ e2 r2 hI=>?_
 have est:st0=fJ:=AQ hI.all.1 hI.lst hI.all.2
 subst est
 have n2H:H l2=none:=s1.new n2
 have Sw:=(aU.of s1).trans OT
 have Iv:=Sw.seq hT hl
 have hk2:=hk.iz Sw hT
 left
 refine gb ⟨Iv,hk2,h6,hg⟩ ?_
 left
 refine jF (xs:=xs) (fun i σ H3=>∃ (o:Option V) (lf:Addr) (ys:List V) (st:List (List Int)),σ=[some (.ref l),some (.ref lf),o]/\H lf=none/\lO K H H3/\bR K H3/\H3 lf=some (.lst ys)/\az K H3 ys st/\Lo (ks.take i) st/\st.length<=5/\∀ r∈st,bY (2 ^ eL.lb W i) r) ⟨_,l2,ys2,_,rfl,n2H,Sw,mZ,e2,r2,Lo.start,aa8,fun r hr=>by
  simp only [fJ,aaC,not_mem_nil,or_false] at hr
  rcases hr with rfl|rfl|rfl|rfl|rfl <;> exact jC _ _ _⟩ (fun i σ H3 hp=>by obtain ⟨o,lf,ys,st,rfl,_,sm,_⟩:=hp;exact sm.seq hT hl) (fun i x σ H3 hx hp=>?_) (fun σ H3 hp=>?_)
 ·obtain ⟨o,lf,ys,st,rfl,nf,qR,lK,e3,r3,sQ,h5,iD⟩:=hp
  obtain ⟨a,w,kk,rfl,h1,h2,h3⟩:=hk.get hx
  have hi:i<6:=by have:=(aad.mp h3).1;lia
  obtain ⟨q1,q2,q3⟩:=hw kk (aay h3)
  have hm:=hg kk (aay h3)
  have Wu:=R1 hW (show i<=5 by lia)
  have Xz:eL.lb W i<=W+eL.lb W i+3:=by lia
  left
  refine ia.c (b:=W+eL.lb W i+3) ⟨aP.of e3,r3,sQ.len,h5,fun v hv=>(iD v hv).mono (aaF aa8 Xz),qR.at hT h1,qR.at hT h2,q1,aaa,rP (b:=400000) q2 aaa,fun v hv=>Bq (yy (sQ.len v hv) q1 (iD v hv) q2) aaa (aag q3 (aaF aa8 aaa)),aag q3 (aaF aa8 aaa),aaa,lK⟩ fun l4 H4 XS XT n4 v9 Ea e4 r4 Tz h54=>?_
  refine⟨_,l4,XS,XT,rfl,qR.new lK n4,qR.trans v9,Ea,e4,r4,?_,h54,fun r hr=>?_⟩
  ·rw [take_snoc h3]
   exact sQ.next Tz
  ·exact Tz.bd sQ.sf sQ.len h5 q1 iD q2 q3 r hr
 obtain ⟨o,lf,ys,st,rfl,nf,qR,lK,e3,r3,sQ,h5,iD⟩:=hp
 rw [<- lk] at sQ iD
 rw [aaN] at sQ
 left
 exact k lf H3 ys st nf qR lK e3 r3 sQ h5 iD
theorem Ob:Ok P w K mg base 39 "rest" ["commas","row"] (NV K):=by
 have S:=N4
 refine T.Sd.lD S fun f bf A outer s H vs Q E hr h=>?_
 obtain @⟨l,a,b,xs,rs,row,⟨hl,eU,h6,iB,iD,hb,ha,jv,gp,hT⟩,kk⟩:=h
 refine⟨_,(ai (au (cX K (aD (gc T) (hr.mono aa8) (aa (pv 0) (aa (pv 1) af))) ah))),?_⟩
 left
 refine cD.c (R:=1000) ⟨hl,eU,h6,iB,iD,hb,ha,jv,gp,aa8,hT⟩ fun t ar pl H' ρ ps st sm Cj mt mr _ _ _ _ _ g1 g2 g3 g4 g5 g6=>?_
 left
 exact kk ar H' ρ st sm Cj mr g1 g2 g3 g4 g5 g6
theorem Cf:Ok P w K mg base 39 "paper" ["commas","row"] (La K):=by
 have S:=Lj
 refine T.NS.lD S fun f bf A outer s H vs Q E hr h=>?_
 obtain @⟨l,a,b,R,xs,rs,row,⟨hl,eU,h6,iB,iD,hb,ha,jv,gp,hR,hT⟩,Wx,Wy⟩:=h
 have jR:=T.jR
 refine⟨_,(ag (cy 2 S.nd (aD (gc T) (hr.mono aa8) (aa (pv 0) (aa (pv 1) af)))) (ag (bj (ptr (kK K rfl hr.units) (cX K (pv 2) ah) (aH (v:=V.ref G.xX) rfl T.Fi rfl)) (ai (au (bA (aa aG (aa (cX K (pv 2) ah) af))))) aK) (ag (iP (k:=3) (N:=["key","row"]) (ix:=[none,some 1]) S.nd rfl (Or.inl rfl) rfl (aR K rfl (aD (pO T) (hr.mono aa8) (aa (aD (Lp T) (hr.mono aa8) (aa (pv 0) af)) af))) (fun _ _ _ _ _=>(aq (i:=0) (show N6 ["key","row"] by decide +kernel) rfl (Or.inl rfl))) (fun _ _ _ _ _=>(gv gu (aD (ve T) (hr.mono aa8) (aa (pv 0) (aa (pv 1) af))) ah (tj _))) (fun _ _ _ _ _=>(pv 0)) rfl TH TH rfl ⟨⟨rfl,Or.inr (Or.inl rfl),rfl,rfl⟩,True.intro⟩) (ai (au (bA (aa aG (aa (cX K (pv 3) ah) af)))))))),?_⟩
 have lr:=eU.length
 left
 refine cD.c ⟨hl,eU,h6,iB,iD,aaa,ha,jv,gp,hR,hT⟩ fun t ar pl H1 ρ ps st LU Gj mt mr mp npl Sx Sm Ce g1 g2 g3 g4 g5 g6=>?_
 have HI:=LU.seq hT hl
 have GA:=LU.at hT ha
 have Ll:=eU.iz LU hT
 have q1:=jR H1
 left
 refine xN (dP.row mr) (dP.row (r:=[0,0,0,0,0]) q1) (fP _) rfl ?_
 rw [sJ]
 left
 refine aW (fun h4=>?_) (fun h4=>?_)
 ·have hz:ρ=[0,0,0,0,0]:=aak h4
  left
  rename_i p2 H2 s2 m2
  refine Wx p2 pl H2 ps (LU.trans (aU.of s2)) (Gj.same s2) (aC.of m2) (s2 _ _ mp) npl Sx Sm fun i hi=>?_
  have:=Ce i hi
  have e0:ρ.getD i 0=0:=by rw [hz];exact ba 5 i
  lia
 have UL:ρ≠cz 5:=aal h4
 left
 refine uR.c (b:=b) ⟨HI,Ll,h6,iB,iD,aaa,Gj⟩ fun lt H2 ys Ta nt OT mZ e2 r2 sf2 eq2 l52 c2 bd2 lb2=>?_
 have est:st=Ta:=SF.uniq g1 sf2 g2 l52 (g3.symm.trans eq2)
 subst est
 have Tq:=OT.at Gj GA
 left
 refine eF.c (b:=b) ⟨aP.of e2,r2,sf2,l52,c2,bd2,lb2,hb⟩ fun lk H3 us ks n3 s3 m3 hk3 hk5 hG=>?_
 have O5:=s3.at Tq
 left
 have Wz:ue 60001 row:=fun x hx=>by
  rw [cB]
  exact fH (aaG (mI gp hx) (pow_lt_pow_right aa8 aaa))
 refine lN (K:=K) [some (.ref a)] (fun k=>val k.1 k.2 row != 0) rfl (aP.of m3) hk3 aaa (fun a' w kk H' Qt hkk s ha' hw kt=>?_) (fun a' H' Qc s kc=>?_) (fun l5 H5 WA n5 s5 m5 WB=>?_)
 ·have hg:=hG.1 kk hkk
  left
  refine zC kk.1 row ha' hw (s.at O5) (by rw [jv,hg.1]) aaa (ue.mul Wz hg.2.2.1 aa8 (by rw [jv,hg.1])) (by have:=hg.2.1;lia) fun H6 s6=>?_
  left
  have e:(!decide (val kk.1 kk.2 row=0))=(val kk.1 kk.2 row != 0):=by
   by_cases h:val kk.1 kk.2 row=0
   ·rw [h];rfl
   ·rw [aam h,bne_iff_ne.mpr h];rfl
  rw [e]
  exact kt _ s6
 ·left
  exact kc
 obtain ⟨k0,hk0,hv0⟩:=hG.2 row ρ jv g4 g5 g6 UL
 have rK:ks.filter (fun k=>val k.1 k.2 row != 0)≠[]:=fun z=>by
  have:k0∈ks.filter (fun k=>val k.1 k.2 row != 0):=aaE.mpr ⟨hk0,bne_iff_ne.mpr hv0⟩
  rw [z] at this
  cases this
 have ni:∀ key∈ks.filter (fun k=>val k.1 k.2 row != 0),key.1.length=5/\(key.2=0\/2<=key.2)/\ue 400000 key.1/\(∀ c,c.length=5->Span 5 rs c->val key.1 key.2 c=0)/\val key.1 key.2 row≠0:=fun key PF=>by
  obtain ⟨y1,y2⟩:=aaE.mp PF
  have hg:=hG.1 key y1
  exact⟨hg.1,hg.2.1,hg.2.2.1,fun c hc hs=>hg.2.2.2 c hc (eq2.span hs),bne_iff_ne.mp y2⟩
 generalize ks.filter (fun k=>val k.1 k.2 row != 0)=fs at WB rK ni
 obtain ⟨key,fs,rfl⟩:∃ key X4,fs=key::X4:=by
  cases fs with
  | nil=>exact absurd rfl rK
  | cons x y=>exact⟨x,y,rfl⟩
 obtain ⟨a9,w9,us9,rfl,h1,h2⟩:=Bm WB
 obtain ⟨f1,f2,f3,f4,f5⟩:=ni _ (mem_cons_self ..)
 left
 refine dY (aP.of m5) (aX (j:=0) rfl) ?_
 left
 rename_i p6 H6 s6 m6
 exact Wy p6 a9 w9 key H6 (LU.trans (OT.trans (aU.of ((s3.trans s5).trans s6)))) (mZ.same ((s3.trans s5).trans s6)) (aC.of m6) (s6.at h1) (s6.at h2) f1 f2 f3 f4 f5
theorem Fp:Ok P w K mg base 40 "held" ["commas","keys"] (NX K):=by
 have S:=N5
 refine T.Sf.lD S fun f bf A outer s H vs Q E hr h=>?_
 obtain @⟨l,m,b,W,xs,ys,rs,ks,⟨hl,eU,h6,iB,iD,hb,hm,N7,hk6,hg,hw,hW,hT⟩,k1,k2,k3⟩:=h
 have hu:=Iw hr
 refine⟨_,(ag (fj (dE (EX:=fun _ _ _=>False) (cN T) (hr.mono aa8) noraise rfl (aa (pv 0) af))) (ag (fj (dE (EX:=fun _ _ _=>False) (dB T) (hr.mono aa8) noraise rfl (aa (pv 1) af))) (ag (cy 2 S.nd (aD (vh T) (hr.mono aa8) (aa (pv 0) (aa (pv 1) af)))) (ag (bj (ptr Me (pv 2) yb) (ai (au (bA (aa aG (aa (pv 2) af))))) aK) (ag (cy 3 S.nd (bP af)) (ag (ck PassesOwn.never rfl (aR K rfl (aD (Oa T) (hr.mono aa8) (aa (pv 1) af))) (aq (i:=4) S.nd rfl (Or.inl rfl)) (ag (cy 5 S.nd (aD (Cf T) (hr.mono aa8) (aa (pv 0) (aa (pv 4) af)))) (ag (bj (ptr bI (cX K (pv 5) ah) aG) (ai (au (bA (aa aG (aa (pv 4) (aa (cX K (pv 5) ah) af)))))) aK) (ai (fj (fC PySem.F.plainAttrs_list PySem.F.slot_list_append PySem.F.type_list_append dN (pv 3) (aa (cX K (pv 5) ah) af))))))) (ai (au (bA (aa aG (aa (pv 3) af))))))))))),?_⟩
 have lr:=eU.length
 left
 refine eG hl aaa ?_
 left
 refine gb ⟨hm,N7,hk6,hg⟩ ?_
 left
 refine f9.c ⟨hl,eU,h6,fun v hv=>⟨iB v hv,rP (b:=1000) (iD v hv) aaa⟩,hm,N7,hk6,hg,fun k hk=>⟨(hw k hk).1,rP (b:=1000) (hw k hk).2.1 aaa⟩⟩ (fun i H1 hi hh iI s1=>?_) (fun H1 iI s1=>?_)
 ·left
  refine⟨rfl,?_⟩
  left
  refine jl rfl ?_
  left
  rename_i p2 H2 s2 m2
  exact k1 i p2 H2 hi hh iI (aU.of (s1.trans s2)) (hT.same (s1.trans s2)) (aC.of m2)
 left
 refine⟨rfl,?_⟩
 left
 refine bZ rfl ?_
 left
 rename_i ls H2 n2 s2 m2
 have v8:=s1.trans s2
 have mZ:=hT.same v8
 refine zv.c (W:=W) ⟨v8.seq hm,N7.same v8,hk6,hg,hw,aaa,mZ⟩ fun l3 H3 LQ st n3 qR lK e3 r3 sQ h53 Ph=>?_
 have Wu:eL.lb W ks.length<=60000:=Wb hW hk6
 have Sy:∀ r∈st,bY (2 ^ 60000) r:=fun r hr=>(Ph r hr).mono (aaF aa8 Wu)
 have lst3:=r3.length
 have sm13:=(aU.of v8).trans qR
 have nls:H ls=none:=s1.new n2
 have m23:=qR.lst mZ m2
 have ne3:l3≠ls:=fun z=>by rw [z,m2] at n3;cases n3
 clear s2 m2 n2
 left
 refine jF (xs:=LQ) (fun i σ Hn=>∃ (o1 o2:Option V) (us:List V) (x8:List (List Int)),σ=[some (.ref l),some (.ref m),some .cJ,some (.ref ls),o1,o2]/\lO K H Hn/\bR K Hn/\Hn l3=some (.lst LQ)/\az K Hn LQ st/\Hn ls=some (.lst us)/\ee Hn us x8/\(∀ x∈us,x≠.ref ls)/\x8.length=i/\∀ j,j<i->(x8.getD j []).length=rs.length/\(∀ x∈x8.getD j [],x.natAbs<=2 ^ 400000)/\∀ z,z<5->(st.getD j []).getD z 0=dj z rs (x8.getD j [])) ⟨_,_,[],[],rfl,sm13,lK,e3,r3,m23,.nil,(fun _ z=>nomatch z),rfl,fun j hj=>absurd hj (Nat.not_lt_zero _)⟩ (fun i σ Hn hp=>by obtain ⟨_,_,_,_,rfl,_,_,e,_⟩:=hp;exact aP.of e) (fun i x σ Hn hx hp=>?_) (fun σ Hn hp=>?_)
 ·obtain ⟨o1,o2,us,x8,rfl,TC,Ay,e3n,r3n,mu,hu,hun,lp,ni⟩:=hp
  obtain ⟨ap,rp,rfl,XJ,Sn⟩:=r3n.get hx
  have WC:=aay Sn
  have hil:=(aad.mp Sn).1
  have e1:st.getD i []=rp:=by rw [List.getD,Sn];rfl
  have lu:=hu.length
  left
  refine nY.c (b:=b) (R:=60000) ⟨TC.seq hT hl,eU.iz TC hT,h6,iB,iD,hb,XJ,sQ.len rp WC,Sy rp WC,aah _,Ay⟩ (fun t4 pl H4 ps v9 Ea m4 e4 n4 Sx Sm Ce=>?_) (fun t4 kt w key H4 v9 Ea m4 mk mw f1 f2 f3 f4 f5=>?_)
  ·left
   refine bZ aa8 ?_
   have mu4:=v9.lst Ay mu
   left
   have WE:pl≠ls:=fun z=>by rw [z,mu] at n4;cases n4
   refine fL mu4 aaa ?_
   refine⟨_,_,us++[.ref pl],x8++[ps],rfl,(TC.trans v9).iO nls,Ea.off mu4,by rw [ay ne3];exact v9.lst Ay e3n,(r3n.iz v9 Ay).off mu4,aw,((hu.iz v9 Ay).append (.cons e4 .nil)).off (fun x hx=>?_),fun x hx=>?_,by simp [lp],fun j hj=>?_⟩
   ·rcases aax.mp hx with z|z
    ·exact hun x z
    ·rw [aaw.mp z];exact fun q=>WE (V.ref.inj q)
   ·rcases aax.mp hx with z|z
    ·exact hun x z
    ·rw [aaw.mp z];exact fun q=>WE (V.ref.inj q)
   ·by_cases c:j<i
    ·have:(x8++[ps]).getD j []=x8.getD j []:=by rw [List.getD,List.getD,aaJ aaa]
     rw [this]
     exact ni j c
    ·obtain rfl:j=i:=by lia
     have:(x8++[ps]).getD j []=ps:=by rw [List.getD,aaK aaa,lp,sub_self];rfl
     rw [this,e1]
     exact⟨Sx,Sm,Ce⟩
  ·left
   refine jl aa8 ?_
   left
   rename_i p5 H5 s5 m5
   exact k2 p5 ap kt w rp key st H5 iI sQ WC (sQ.len rp WC) (Sy rp WC) (TC.trans (v9.trans (aU.of s5))) (Ea.same s5) (aC.of m5) (s5.at (v9.at Ay XJ)) (s5.at mk) (s5.at mw) f1 f2 f3 f4 f5
 obtain ⟨o1,o2,us,x8,rfl,TC,Ay,e3n,r3n,mu,hu,hun,lp,ni⟩:=hp
 left
 rename_i p5 H5 s5 m5
 exact k3 p5 ls H5 us x8 st iI sQ h53 Sy (TC.trans (aU.of s5)) (Ay.same s5) (aC.of m5) (s5 _ _ mu) (hu.same s5) aaa fun i hi=>ni i aaa
theorem oi:A1 P w K mg base 40 "nothing_answer" ["desk","words"] (nZ K):=by
 have S:=oh
 refine T.pI.F8 S (fun vs H Q E h=>?_) (fun f bf A outer s H vs Q E hr h=>?_)
 ·obtain ⟨R,⟨d,l,c,k,xs,rs,r,rfl,hl,gp,hD,hc,hx,jw,hT,ho⟩,hQ,hE⟩:=h;rfl
 ·obtain ⟨R,⟨d,l,c,k,xs,rs,r,rfl,hl,gp,hD,hc,hx,jw,hT,ho⟩,hQ,hE⟩:=h
  have jR:=T.jR
  have bT:=T.bT
  have aM:=T.aM
  have aE:=T.aE
  have aS:=T.aS
  have aN:=T.aN
  refine⟨_,(ai (au (aD (zM T) (hr.mono aa8) (aa (y4 (kK K rfl hr.units) (aD (Ob T) (hr.mono aa8) (aa (gz K rfl (pv 0) rfl) (aa (dE (i7 T) (hr.mono aa8) (fun _ _ z=>z) rfl (aa (cX K (pv 1) ah) af)) af))) (aH (v:=V.ref G.xX) rfl T.Fi rfl)) af)))),?_⟩
  obtain ⟨C,dx,t1,t2,hC,hd⟩:=hD
  obtain rfl:C=G.bg:=by rw [Nm,T.jW] at hC;cases hC;rfl
  left
  refine j2 gp fun p H1 s1 m1=>?_
  have Gj:=hT.same s1
  have hc1:=s1 _ _ hc
  have hb:=fX (M:=2 ^ 1000) gp (aag (show 18<=2 ^ 5 by decide) (aaF aa8 aa8)) (aag (show 4<=2 ^ 5 by decide) (aaF aa8 aa8))
  have v7:=fun v hv=>fX (M:=2 ^ 4) (jw.2 v hv) aa8 aa8
  left
  refine zu.c (b:=4) ⟨aP.of hc1,hx.same s1,jw.1,fun v hv=>(v7 v hv).1,fun v hv=>(v7 v hv).2,aa8,aC.of m1,hb.1,hb.2,Gj⟩ fun ar H2 ρ st OT mZ mar sf l5 eqv lρ lX hred=>?_
  have hi:=KN sf l5 eqv hb.1 lρ lX hred
  left
  refine xN (dP.row mar) (dP.row (r:=[0,0,0,0,0]) (jR _)) (fP _) (fP _) ?_
  rw [sJ]
  left
  exact i4.c (hQ _ _ (ho _ _ ((aU.of s1).trans OT) mZ (by rw [decide_eq_true_iff];exact hi)))
theorem vi:A1 P w K mg base 41 "same_answer" ["desk","words"] (uW K):=by
 have S:=vb
 refine T.wI.F8 S (fun vs H Q E h=>?_) (fun f bf A outer s H vs Q E hr h=>?_)
 ·obtain ⟨R,⟨d,l,c,k,xs,ys,rs,qs,rfl,hD,hc,hx,jw,hk,hy,i8,hT,h1,h2⟩,hQ,hE⟩:=h;rfl
 ·obtain ⟨R,⟨d,l,c,k,xs,ys,rs,qs,rfl,hD,hc,hx,jw,hk,hy,i8,hT,h1,h2⟩,hQ,hE⟩:=h
  have bT:=T.bT
  have aM:=T.aM
  have aE:=T.aE
  have aS:=T.aS
  have aN:=T.aN
  refine⟨_,(ag (cy 2 S.nd (aD (Fp T) (hr.mono aa8) (aa (gz K rfl (pv 0) rfl) (aa (gz K rfl (pv 0) rfl) af)))) (ag (bj (ptr bI (cX K (pv 2) ah) aG) (ai (au (aA eO aG (aB b8 rfl T.jm boot_str (aa (cX K (pv 2) ah) af))))) aK) (ai (au (cX K (pv 2) ah))))),?_⟩
  obtain ⟨C,dx,t1,t2,hC,hd⟩:=hD
  obtain rfl:C=G.bg:=by rw [Nm,T.jW] at hC;cases hC;rfl
  have v7:=fun v hv=>fX (M:=2 ^ 4) (jw.2 v hv) aa8 aa8
  left
  refine sO.c (b:=4) (W:=14) ⟨aP.of hc,hx,jw.1,fun v hv=>(v7 v hv).1,fun v hv=>(v7 v hv).2,aa8,aP.of hk,hy,i8.1,fun q hq=>(i8.2 q hq).2.2.1,fun q hq=>⟨(i8.2 q hq).1,pA (i8.2 q hq).2.1 aa8,aag (show q.2.natAbs<=40 by have:=i8.2 q hq;lia) aa8⟩,aa8,hT⟩ (fun i p H9 hi hh iI HJ LV m9=>?_) (fun p ra kt w row key st H9 iI sQ AN jv WG HJ LV m9 mra mkt mw f1 f2 f3 f4 f5=>?_) (fun p pl H9 us x8 st iI sQ h5s hbst HJ LV m9 mpl hus Sx ni=>?_)
  ·left
   rw [aan rfl]
   refine jl rfl ?_
   left
   refine eZ (iY (by have:=jw.1;lia)) ?_
   refine fb (bJ (by have:=(kI.yH (o:=(i:Int)) aaa (by have:=jw.1;lia)).2;rw [show (Str.ofString "comma ").length=6 by decide];lia)) ?_
   left
   exact hQ _ _ (h1 i _ hi hh iI HJ LV)
  ·left
   refine bZ aa8 ?_
   left
   refine hQ _ _ (h2 false _ iI ⟨(fun z=>nomatch z),fun z=>absurd (f4 row jv (z row jv ((sQ.all row).mp (Span.mem AN)).2)) f5⟩ HJ LV)
  ·left
   refine bZ aa8 ?_
   left
   refine hQ _ _ (h2 true _ iI ⟨fun _ r lr hz=>((sQ.all r).mpr ⟨lr,hz⟩).of fun q hq=>?_,fun _=>rfl⟩ HJ LV)
   obtain ⟨i,hi,rfl⟩:=mem_iff_getElem.mp hq
   have h3:=ni i hi
   rw [show st.getD i []=st[i] by rw [List.getD,aat hi];rfl] at h3
   exact uq (sQ.len _ hq) (fun v hv=>(v7 v hv).1) h3.2.2
theorem sj:Ok P w K mg base 41 "_law_same_due" ["_law_commas","_law_keys"] (jo K):=by
 have S:=r8
 refine T.uM.ok S (fun vs H Q E h=>?_) (fun f bf A outer s H vs Q E hr h=>?_)
 ·obtain ⟨_,_,_,_,_,_,rfl,_⟩:=h;rfl
 ·obtain ⟨l,m,xs,ys,rs,qs,rfl,hl,hx,jw,hm,hy,i8,hT,k1,k2⟩:=h
  refine⟨_,(ag (ck PassesOwn.never rfl (dM rfl T.fo (aa (ax (bQ K rfl) rfl T.cL PySem.boot_len (aa (pv 0) af)) af)) (aq (i:=2) S.nd rfl (Or.inr rfl)) (ai (bj (eW (dC (ax (mf K rfl rfl) rfl T.uD boot_all (aa (kP ["_law_key","_law_commas","_law_k"] [none,some 0,some 2] (aR K rfl (pv 1)) (fun _ _ _ _ _=>(aq (i:=0) (nd ["_law_key","_law_commas","_law_k"]) rfl (Or.inl rfl))) (fun _ _ _ _ _=>rfl) (fun _ _ _ _ _=>(y4 bI (aD (fu T) (hr.mono aa8) (aa (pv 0) (aa (cX K (pv 1) (pv 2)) af))) ah))) af)))) (ai (au (aA eO aG (aB b8 rfl T.jm boot_str (aa (pv 2) af))))) aK))) (ai (au (cX K (aD (Fp T) (hr.mono aa8) (aa (aB (yN K rfl) rfl T.DD boot_list (aa (pv 0) af)) (aa (aB (yN K rfl) rfl T.DD boot_list (aa (pv 1) af)) af))) ah)))),?_⟩
  have v7:=fun v hv=>fX (M:=2 ^ 4) (jw.2 v hv) aa8 aa8
  have h5:Len 5 rs:=fun v hv=>(v7 v hv).1
  have h6:=jw.1
  have lx:=hx.length
  have ly:=hy.length
  have h7:=i8.1
  left
  refine JU (n:=xs.length) (fun i σ Hn=>∃ o1:Option V,σ=[some (.ref l),some (.ref m),o1]/\aj H Hn/\∀ j,j<i->¬ Hr qs (rs.getD j [])) ⟨_,rfl,aj.refl _,fun j hj=>absurd hj aaa⟩ (fun i σ Hn hi hp=>?_) (fun σ Hn hp=>?_)
  ·obtain ⟨o1,rfl,sn,iI⟩:=hp
   obtain ⟨a,r,ea,har,er⟩:=hx.get (i:=i) (aat hi)
   have gx:xs[i]?=some (.ref a):=by rw [aat hi,ea]
   have Jk:=mem_of er
   have eg:rs.getD i []=r:=by rw [List.getD,er];rfl
   left
   rw [show (0:Int)+(i:Int)=(i:Int) by lia]
   refine dm (xs:=ys) [some (.ref l),some (.int i)] (fun j=>.bl (decide (val (qs.getD j ([],0)).1 (qs.getD j ([],0)).2 r=0))) rfl (sn.seq hm) aaa (fun j x H' Qc Oz s kc=>?_) (fun l2 H2 n2 s2 m2=>?_)
   ·obtain ⟨ak,wk,kk,rfl,g1,g2,g3⟩:=hy.get Oz
    have hq:=i8.2 kk (mem_of g3)
    have eq:qs.getD j ([],0)=kk:=by rw [List.getD,g3];rfl
    have Sz:=sn.trans s
    walk_at "v"
    refine dY (Sz.seq hl) (aX gx) ?_
    left
    refine cZ.c ⟨Sz.at g1,Sz.at g2,Sz.at har,hq.1,h5 r Jk,hq.2.2.1,rP (M:=14) (pA hq.2.1 aa8) aa8,rP (M:=4) (v7 r Jk).2 aa8⟩ fun H3 s3=>?_
    left
    have:=kc _ s3
    rw [eq] at this
    exact this
   have eb:(List.range ys.length).map (fun j=>V.bl (decide (val (qs.getD j ([],0)).1 (qs.getD j ([],0)).2 r=0)))=((List.range ys.length).map fun j=>decide (val (qs.getD j ([],0)).1 (qs.getD j ([],0)).2 r=0)).map V.bl:=by rw [aaS];rfl
   rw [eb] at m2
   have WH:(((List.range ys.length).map fun j=>decide (val (qs.getD j ([],0)).1 (qs.getD j ([],0)).2 r=0)).all id=true)↔¬ Hr qs r:=by
    rw [<- ly]
    exact R6
   left
   refine tX (aP.of m2) ?_
   generalize ((List.range ys.length).map fun j=>decide (val (qs.getD j ([],0)).1 (qs.getD j ([],0)).2 r=0)).all id=b at *
   left
   cases b with
   | false =>
    refine jl rfl ?_
    left
    refine eZ (iY aaa) ?_
    refine fb (bJ (by have:=(kI.yH (o:=(i:Int)) aaa aaa).2;rw [show (Str.ofString "comma ").length=6 by decide];lia)) ?_
    left
    exact k1 i _ aaa (by rw [eg];exact Classical.byContradiction fun z=>nomatch WH.mpr z) iI (aU.of (sn.trans s2)) (hT.same (sn.trans s2))
   | true =>
    refine bZ rfl ?_
    refine⟨_,rfl,sn.trans s2,fun j hj=>?_⟩
    by_cases Xl:j=i
    ·rw [Xl,eg];exact WH.mp rfl
    ·exact iI j aaa
  obtain ⟨o1,rfl,sn,iI⟩:=hp
  have Eb:∀ r∈rs,¬ Hr qs r:=fun r hr=>by
   obtain ⟨i,hi,rfl⟩:=mem_iff_getElem.mp hr
   have:=iI i aaa
   rw [List.getD,aat hi] at this
   exact this
  have HI:=sn.seq hl
  have hm1:=sn.seq hm
  left
  rename_i l2 H2 n2 s2 m2 l3 H3 n3 s3 m3
  have WJ:=(sn.trans s2).trans s3
  have XU:=s3 _ _ m2
  refine sO.c (b:=4) (W:=14) ⟨aP.of XU,hx.same WJ,h6,h5,fun v hv=>(v7 v hv).2,aa8,aP.of m3,hy.same WJ,h7,fun q hq=>(i8.2 q hq).2.2.1,fun q hq=>⟨(i8.2 q hq).1,pA (i8.2 q hq).2.1 aa8,aag (show q.2.natAbs<=40 by have:=i8.2 q hq;lia) aa8⟩,aa8,hT.same WJ⟩ (fun i p H9 hi hh iI HJ LV m9=>?_) (fun p ra kt w row key st H9 iI sQ AN jv WG HJ LV m9 mra mkt mw f1 f2 f3 f4 f5=>?_) (fun p pl H9 us x8 st iI sQ h5s hbst HJ LV m9 mpl hus Sx ni=>?_)
  ·exact absurd hh (Eb _ (by rw [List.getD,aat hi];exact aa5 _))
  ·left
   exact k2 false _ iI ⟨(fun z=>nomatch z),fun z=>absurd (f4 row jv (z row jv ((sQ.all row).mp (Span.mem AN)).2)) f5⟩ ((aU.of WJ).trans HJ) LV
  ·left
   refine k2 true _ iI ⟨fun _ r lr hz=>((sQ.all r).mpr ⟨lr,hz⟩).of fun q hq=>?_,fun _=>rfl⟩ ((aU.of WJ).trans HJ) LV
   obtain ⟨i,hi,rfl⟩:=mem_iff_getElem.mp hq
   have h3:=ni i hi
   rw [show st.getD i []=st[i] by rw [List.getD,aat hi];rfl] at h3
   exact uq (sQ.len _ hq) h5 h3.2.2
theorem zQ:RQ P w K mg base 42 G.jQ ["self","line"] (zB K):=by
 have S:=zJ
 refine T.jY.F8 S (fun vs H Q E h=>?_) (fun f bf A outer s H vs Q E hr h=>?_)
 ·obtain ⟨R,⟨d,z,rfl,c,k,w0,ws,hD,rfl,hL,ho⟩,hQ,hE⟩:=h;rfl
 ·obtain ⟨R,⟨d,z,rfl,c,k,w0,ws,hD,rfl,hL,ho⟩,hQ,hE⟩:=h
  refine⟨_,(ag (cy 2 S.nd (aD (xb T) (hr.mono aa8) (aa (pv 1) af))) (ag (cy 3 S.nd (xu (Bi T.GN) (aH (v:=V.ref G.pF) rfl T.GL rfl) (cX K (pv 2) ah) (fun _ _=>rfl))) (ai (au (Nt (i:=3) (k:=41) (ps:=["desk","words"]) (hr.mono aa8) (fun _ _ z=>z) rfl (aa (pv 0) (aa (cF (fM K rfl) (pv 2) (dz ah) dy) af)) rfl (Or.inl rfl)))))),?_⟩
  left
  refine ib.c hL fun l1 H1 s1 m1=>?_
  left
  refine dY (aP.of m1) (aX (j:=0) rfl) ?_
  have hw:=hL.1
  unfold px at hw
  simp only [aaC,not_mem_nil,or_false,Prod.mk.injEq] at hw
  rcases hw with ⟨rfl,_⟩|⟨rfl,_⟩|⟨rfl,_⟩|⟨rfl,_⟩|⟨rfl,_⟩|⟨rfl,_⟩
  ·refine t9 rfl ?_
   left
   refine kO rfl aa8 ((sg T).at T.BB) ?_
   left
   rename_i l2 H2 n2 s2 m2
   have h:ZN K [.ref d,.ref l2] H2 R:=by
    rcases ho l2 H2 (s1.trans s2) m2 with ⟨e,h⟩|⟨e,h⟩|⟨e,h⟩|⟨e,h⟩|⟨e,h⟩|⟨e,h⟩ <;> first|exact h|exact absurd e aa8
   exact⟨R,h,hQ,fun c H' h=>⟨c,rfl,hE _ _ h⟩⟩
  ·refine t9 rfl ?_
   left
   refine kO rfl aa8 ((xc T).at T.BC) ?_
   left
   rename_i l2 H2 n2 s2 m2
   have h:ZO K [.ref d,.ref l2] H2 R:=by
    rcases ho l2 H2 (s1.trans s2) m2 with ⟨e,h⟩|⟨e,h⟩|⟨e,h⟩|⟨e,h⟩|⟨e,h⟩|⟨e,h⟩ <;> first|exact h|exact absurd e aa8
   exact⟨R,h,hQ,fun c H' h=>⟨c,rfl,hE _ _ h⟩⟩
  ·refine t9 rfl ?_
   left
   refine kO rfl aa8 ((vg T).at T.BD) ?_
   left
   rename_i l2 H2 n2 s2 m2
   have h:ZP K [.ref d,.ref l2] H2 R:=by
    rcases ho l2 H2 (s1.trans s2) m2 with ⟨e,h⟩|⟨e,h⟩|⟨e,h⟩|⟨e,h⟩|⟨e,h⟩|⟨e,h⟩ <;> first|exact h|exact absurd e aa8
   exact⟨R,h,hQ,fun c H' h=>⟨c,rfl,hE _ _ h⟩⟩
  ·refine t9 rfl ?_
   left
   refine kO rfl aa8 ((oi T).at T.BE) ?_
   left
   rename_i l2 H2 n2 s2 m2
   have h:ZQ K [.ref d,.ref l2] H2 R:=by
    rcases ho l2 H2 (s1.trans s2) m2 with ⟨e,h⟩|⟨e,h⟩|⟨e,h⟩|⟨e,h⟩|⟨e,h⟩|⟨e,h⟩ <;> first|exact h|exact absurd e aa8
   exact⟨R,h,hQ,fun c H' h=>⟨c,rfl,hE _ _ h⟩⟩
  ·refine t9 rfl ?_
   left
   refine kO rfl aa8 ((sh T).at T.BF) ?_
   left
   rename_i l2 H2 n2 s2 m2
   have h:ZR K [.ref d,.ref l2] H2 R:=by
    rcases ho l2 H2 (s1.trans s2) m2 with ⟨e,h⟩|⟨e,h⟩|⟨e,h⟩|⟨e,h⟩|⟨e,h⟩|⟨e,h⟩ <;> first|exact h|exact absurd e aa8
   exact⟨R,h,hQ,fun c H' h=>⟨c,rfl,hE _ _ h⟩⟩
  ·refine t9 rfl ?_
   left
   refine kO rfl aa8 ((vi T).at T.BG) ?_
   left
   rename_i l2 H2 n2 s2 m2
   have h:ZS K [.ref d,.ref l2] H2 R:=by
    rcases ho l2 H2 (s1.trans s2) m2 with ⟨e,h⟩|⟨e,h⟩|⟨e,h⟩|⟨e,h⟩|⟨e,h⟩|⟨e,h⟩ <;> first|exact h|exact absurd e aa8
   exact⟨R,h,hQ,fun c H' h=>⟨c,rfl,hE _ _ h⟩⟩
theorem cS:Ok P w K mg base 43 "_law_told" ["_law_desk","_law_line"] (cA K):=by
 have S:=B7
 refine T.DL.ok S (fun vs H Q E h=>?_) (fun f bf A outer s H vs Q E hr h=>?_)
 ·obtain ⟨_,_,rfl,_⟩:=h;rfl
 ·obtain ⟨d,z,rfl,h⟩:=h
  have bT:=T.bT
  have aM:=T.aM
  have aE:=T.aE
  have aS:=T.aS
  have aN:=T.aN
  refine⟨_,(ag (cy 2 S.nd aG) (ag (cy 3 S.nd aG) (ag (Q8 (i:=4) (pl:=tW mg) (fun _ z=>z) T.BJ rfl rfl rfl S.nd rfl rfl rfl T.BI (fun _ _=>(ai (cy 3 S.nd (RT (zQ T) T.bT T.BK (hr.mono aa8) (fun _ _ z=>z) rfl (pv 0) (aa (pv 1) af))))) (fun a_=>(ai (cy 2 S.nd (RV a_ rfl (zN T) (bK.toH hr aa8) (aa (pv 4) af)))))) (ag (bj (ptr gu (pv 2) aG) (ai (au (bA (aa aG (aa (pv 2) af))))) aK) (ai (au (pv 3))))))),?_⟩
  with_reducible refine AY ?_
  with_reducible refine ES ?_
  with_reducible refine YW ?_
  with_reducible refine yK ?_
  with_reducible refine AY ?_
  with_reducible refine ES ?_
  with_reducible refine YW ?_
  with_reducible refine yK ?_
  with_reducible refine AY ?_
  refine join (fun σ' H'=>(∃ x:Str,σ'=[some (.ref d),some (.str z),some (.str ""),some (.str x),none]/\Q (.str x) H')\/∃ (w x:Str),w≠""/\σ'=[some (.ref d),some (.str z),some (.str w),some (.str x),none]/\∀ p H2,aj H' H2->H2 p=some (.tup [.str "refused",.str w])->Q (.ref p) H2) (fun nx kn=>?_) (fun σ' H1 hp=>?_)
  ·have hD:∃ c k,Dk K d c k H:=let ⟨c,k,_,_,h,_⟩:=h;⟨c,k,h⟩
   obtain ⟨c,k,C,dx,t1,t2,hC,hd⟩:=hD
   obtain rfl:C=G.bg:=by rw [Nm,T.jW] at hC;cases hC;rfl
   left
   refine Nv ?_
   left
   refine Ks hd rfl ?_
   left
   refine⟨ZV K Q,⟨d,z,rfl,h⟩,fun v H' hv=>?_,fun C H' hC=>⟨C,rfl,?_,fun ae Z2=>?_⟩⟩
   ·obtain ⟨⟨x,rfl⟩,hq⟩:=hv
    left
    exact kn _ _ (.inl ⟨x,rfl,hq⟩)
   ·obtain ⟨w,hw,_⟩:=hC
    rcases hw with ⟨hw,_⟩|⟨hw,_⟩|⟨hw,_⟩|⟨hw,_⟩
    ·obtain rfl:C=G.dq:=by rw [Nm,T.fZ.ns] at hw;cases hw;rfl
     exact T.bV
    ·obtain rfl:C=G.dr:=by rw [Nm,T.cH.ns] at hw;cases hw;rfl
     exact T.bW
    ·obtain rfl:C=G.cp:=by rw [Nm,T.dH.ns] at hw;cases hw;rfl
     exact T.bG
    ·obtain rfl:C=G.du:=by rw [Nm,T.dw.ns] at hw;cases hw;rfl
     exact T.bX
   ·obtain ⟨w,hw,hq⟩:=hC
    have oy:tW mg C/\w≠"":=by
     rcases hw with ⟨hw,rfl⟩|⟨hw,rfl⟩|⟨hw,rfl⟩|⟨hw,rfl⟩
     ·obtain rfl:C=G.dq:=by rw [Nm,T.fZ.ns] at hw;cases hw;rfl
      exact⟨.inr (.inl T.uF),aa8⟩
     ·obtain rfl:C=G.dr:=by rw [Nm,T.cH.ns] at hw;cases hw;rfl
      exact⟨.inl T.jV,aa8⟩
     ·obtain rfl:C=G.cp:=by rw [Nm,T.dH.ns] at hw;cases hw;rfl
      exact⟨.inr (.inr (.inr (.inr (.inl T.mJ)))),aa8⟩
     ·obtain rfl:C=G.du:=by rw [Nm,T.dw.ns] at hw;cases hw;rfl
      exact⟨.inr (.inr (.inr (.inr (.inr T.nU)))),aa8⟩
    left
    refine Ny ?_
    left
    refine⟨⟨_,C,none,oy.1,aw⟩,i5.c aw hw fun H9 s9=>?_⟩
    left
    exact kn _ _ (.inr ⟨w,_,oy.2,rfl,fun p H2 s2 m2=>hq p H2 (((aj.aZ Z2).trans s9).trans s2) m2⟩)
  rcases hp with ⟨x,rfl,hq⟩|⟨w,x,rK,rfl,hq⟩
  ·left
   refine bZ aa8 ?_
   left
   exact hq
  ·left
   refine jl (by rw [aam rK];rfl) ?_
   left
   rename_i p9 H9 s9 m9
   exact hq _ _ s9 m9
theorem Cg:Ok P w K mg base 44 "_law_kept" ["_law_desk","_law_cell_here","_law_commas","_law_keys"] (BY K):=by
 have S:=B8
 refine T.DN.lD S fun f bf A outer s H vs Q E hr h=>?_
 obtain @⟨d,lc,lk,H0,rs,qs,c,⟨S0,jw,i8⟩,k⟩:=h
 refine⟨_,(ag (cy 4 S.nd (aD (qO T) (hr.mono aa8) (aa (aA bE (aA eJ (pv 1) ah) ah) af))) (ag (bj (ptr qg (aA bE (pv 1) ah) ah) (ag (bj (PW.pt (Cm (ptr bI (ax (bQ K rfl) rfl T.cL PySem.boot_len (aa (pv 2) af)) ah) (yc (ptr bI (aA bE (aA eJ (pv 1) ah) ah) ah)))) (ag (cy 5 S.nd aG) (ag (bj (ptr (EV K rfl hr.units) (aD (cS T) (hr.mono aa8) (aa (pv 0) (aa (pv 5) af))) (bA (aa aG (aa aG af)))) (ai (au jx)) aK) (ai (au (y4 (kK K rfl hr.units) (aD (cS T) (hr.mono aa8) (aa (pv 0) (aa aG af))) (bA (aa aG (aa aG af)))))))) aK) (ag (cy 6 S.nd (aD (cS T) (hr.mono aa8) (aa (pv 0) (aa (aA eO aG (aD (fh T) (hr.mono aa8) (aa (pv 4) af))) af)))) (ag (bj (ptr bI (ax (bQ K rfl) rfl T.cL PySem.boot_len (aa (pv 2) af)) ah) (ai (au (y4 (kK K rfl hr.units) (pv 6) (bA (aa aG (aa aG af)))))) aK) (ag (fj (fC PySem.F.plainAttrs_list PySem.F.slot_list_append PySem.F.type_list_append dN (pv 2) (aa (pv 4) af))) (ai (au (y4 bI (pv 6) (aB b8 rfl T.jm boot_str (aa (ax (bQ K rfl) rfl T.cL PySem.boot_len (aa (pv 2) af)) af))))))))) aK) (ag (cy 7 S.nd ah) (ag (cy 8 S.nd aG) (ag (bj (ptr bI (aA bE (pv 1) ah) ah) (ag (cy 7 S.nd (aA lV (aA bE (aA eJ (pv 1) ah) ah) (aB xJ rfl T.qG boot_int (aa (y4 bI (aA bE (aA eJ (pv 1) ah) ah) ah) af)))) (ai (cy 8 S.nd (aA eO aG (aB b8 rfl T.jm boot_str (aa (pv 7) af)))))) aK) (ag (cy 9 S.nd (bA (aa (aD (vd T) (hr.mono aa8) (aa (aA bE (aA eJ (pv 1) ah) ah) af)) (aa (pv 7) af)))) (ag (cy 6 S.nd (aD (cS T) (hr.mono aa8) (aa (pv 0) (aa (aA eO (aA eO (pv 8) aG) (fC PySem.F.plainAttrs_str PySem.F.slot_str_join PySem.F.type_str_join nQ aG (aa (kP ["_law_number"] [none] (cW K rfl (cX K (pv 9) ah)) (fun _ _ _ _ _=>(aq (i:=0) (nd ["_law_number"]) rfl (Or.inl rfl))) (fun _ _ _ _ _=>rfl) (fun _ _ _ _ _=>(aB b8 rfl T.jm boot_str (aa (pv 0) af)))) af))) af)))) (ag (bj (ptr bI (ax (bQ K rfl) rfl T.cL PySem.boot_len (aa (pv 3) af)) ah) (ai (au (y4 (kK K rfl hr.units) (pv 6) (bA (aa aG (aa aG af)))))) aK) (ag (fj (fC PySem.F.plainAttrs_list PySem.F.slot_list_append PySem.F.type_list_append dN (pv 3) (aa (pv 9) af))) (ai (au (y4 bI (pv 6) (aB b8 rfl T.jm boot_str (aa (ax (bQ K rfl) rfl T.cL PySem.boot_len (aa (pv 3) af)) af)))))))))))))),?_⟩
 left
 refine uZ aaa fun p r H1 s1 m1 gp=>?_
 have S1:=S0.same s1
 have h6:=jw.1
 have h7:=i8.1
 obtain ⟨⟨_,_,_,_,us,vs,_,_,_,⟨b3,w3⟩,⟨b4,w4⟩,_⟩,_,_,_⟩:=id S1
 have l3:=w3.length
 have l4:=w4.length
 have WK:RB 18 4 r:=gp.mono aa8 aa8
 left
 refine aW (fun h3=>?_) (fun h3=>?_)
 ·walk_at "j"
  refine join (fun σ' H'=>σ'=[some (.ref d),some (.int c),some (.ref lc),some (.ref lk),some (.ref p),none,none,none,none,none]/\H'=H1) (fun nx kn=>?_) (fun σ' H' hp=>?_)
  ·left
   refine aW (fun h4=>?_) (fun h4=>?_)
   rotate_left
   ·refine bZ rfl ?_
    left
    exact kn _ _ ⟨rfl,rfl⟩
   left
   refine aW (fun h5=>?_) (fun h5=>?_)
   rotate_left
   ·left
    exact kn _ _ ⟨rfl,rfl⟩
   left
   refine Sh S1 jw fun p2 H2 s2 m2=>?_
   left
   rename_i p3 H3 s3 m3
   refine OP (qz (s3 _ _ m2)) (qz m3) (gB TH) (gB TH) ?_
   rw [NL]
   left
   refine bZ rfl ?_
   left
   refine ZW (S1.same (s2.trans s3)) jw fun p4 H4 s4 m4=>?_
   left
   rename_i p5 H5 s5 m5
   refine xN (qz (s5 _ _ m4)) (qz m5) (gB TH) (gB TH) ?_
   rw [NL]
   exact k _ rs qs (S1.same ((s2.trans s3).trans (s4.trans s5))) jw i8
  obtain ⟨rfl,rfl⟩:=hp
  left
  refine b9.c (aC.of m1) WK fun H2 s2=>?_
  have S2:=S1.same s2
  left
  refine fb (bJ (by have:=gA WK;rw [show (Str.ofString "comma ").length=6 by decide];lia)) ?_
  left
  refine Ld S2 jw gp (fun e p3 H3 s3 m3=>?_) (fun e H3 S3 t3=>?_)
  ·have XV:=s3 _ _ (s2 _ _ b3)
   left
   refine jl (aan aaa) ?_
   left
   rename_i p5 H5 s5 m5
   refine xN (qz (s5 _ _ m3)) (qz m5) (gB TH) (gB TH) ?_
   rw [NL]
   exact k _ rs qs (S2.same (s3.trans s5)) jw i8
  ·obtain ⟨⟨_,_,_,_,XX,_,_,_,_,⟨b5,w5⟩,_⟩,_,_,_⟩:=id S3
   have l5:=w5.length
   left
   refine bZ (aam aaa) ?_
   left
   refine fL b5 aaa ?_
   have S4:=S3.ZL (t3 _ _ (s2.at (aC.of m1))) b5
   have bU:upd H3 lc (.lst (XX++[.ref p])) lc=some (.lst (XX++[.ref p])):=aw
   generalize upd H3 lc (.lst (XX++[.ref p]))=H4 at *
   left
   refine eZ (iY (by simp;lia)) ?_
   left
   rw [show (((XX++[V.ref p]).length:Nat):Int)=(rs.length:Int)+1 by simp;lia]
   left
   rw [aan rfl]
   exact k _ (rs++[r]) qs S4 ⟨by simp;lia,fun q hq=>(aax.mp hq).elim (jw.2 q) fun z=>by rw [aaw.mp z];exact gp⟩ i8
 walk_at "j"
 refine join (fun σ' H'=>∃ (m:Int) (ln:Str),(m=0\/2<=m)/\m<=40/\σ'=[some (.ref d),some (.int c),some (.ref lc),some (.ref lk),some (.ref p),none,none,some (.int m),some (.str ln),none]/\H'=H1/\((m=0/\ln = "key")\/ln = "ring "++nw m)) (fun nx kn=>?_) (fun σ' H' hp=>?_)
 ·left
  refine aW (fun h4=>?_) (fun h4=>?_)
  rotate_left
  ·left
   exact kn _ _ ⟨0,"key",.inl rfl,aa8,rfl,rfl,.inl ⟨rfl,rfl⟩⟩
  left
  obtain ⟨m,hmE,Z1⟩:∃ m:Int,(c / 8 % 40+if decide (c / 8 % 40=1)=true then 1 else 0)=m/\(m=0\/2<=m)/\m<=40:=⟨_,rfl,by by_cases h:c / 8 % 40=1 <;> simp [h] <;> lia⟩
  rw [hmE]
  refine eZ (iY aaa) ?_
  refine fb (bJ (by have:=ur (x:=m) aaa;rw [show (Str.ofString "ring ").length=5 by decide];show 5+(nw m).length<=_;lia)) ?_
  left
  exact kn _ _ ⟨m,_,Z1.1,Z1.2,rfl,rfl,.inr rfl⟩
 obtain ⟨m,ln,hm,WL,rfl,rfl,iB⟩:=hp
 have hlen:ln.length<=12:=by
  rcases iB with ⟨_,rfl⟩|rfl
  ·decide
  ·rw [PySem.strLen_append,show (Str.ofString "ring ").length=5 by decide]
   have:=ur (x:=m) aaa
   lia
 left
 refine wR aaa fun pn w H2 s2 m2 l5 hf=>?_
 left
 rename_i pk H3 s3 m3
 have XU:=s3 _ _ m2
 refine fb (bJ (by rw [show (Str.ofString " ").length=1 by decide];lia)) ?_
 left
 refine el (fun x=>.str (nw x)) [] rfl (aC.of XU) aaa (fun x H' Qc hx s kc=>?_) (fun l4 H4 n4 s4 m4=>?_)
 ·have:=hf x hx
  left
  exact eZ (iY aaa) (kc _ (aj.refl _))
 have hz:∀ z∈w.map nw,z.length<=7:=fun z hz=>by
  obtain ⟨x,hx,rfl⟩:=aaD.mp hz
  have:=hf x hx
  exact ur aaa
 have hj:=uu (w.map nw) fun z h=>aag (hz z h) aa8
 rw [aaz,l5] at hj
 left
 refine y0 (zs:=w.map nw) (by rw [m4,aaS];rfl) aa8 (by have:=DB hz;rw [aaz] at *;lia) ?_
 refine fb (bJ (by rw [PySem.strLen_append,show (Str.ofString " ").length=1 by decide];show _+(Str.join bk _).length<=_;lia)) ?_
 have TB:=(s2.trans s3).trans s4
 have S4:=S1.same TB
 left
 refine Si S4 i8 l5 hf hm WL (NM l5 iB) (fun e p5 H5 s5 m5=>?_) (fun e H5 S5 t5=>?_)
 ·have b5:=s5 _ _ (TB _ _ b4)
  left
  refine jl (aan aaa) ?_
  left
  rename_i p6 H6 s6 m6
  refine xN (qz (s6 _ _ m5)) (qz m6) (gB TH) (gB TH) ?_
  rw [NL]
  exact k _ rs qs (S4.same (s5.trans s6)) jw i8
 ·obtain ⟨⟨_,_,_,_,_,WA,_,_,_,_,⟨b5,w5⟩,_⟩,_,_,_⟩:=id S5
  have l6:=w5.length
  left
  refine bZ (aam aaa) ?_
  left
  refine fL b5 aaa ?_
  have S6:=S5.ZM (t5 _ _ (s4.at (aC.of m3))) (t5 _ _ (s4.at (aC.of XU))) b5
  have bU:upd H5 lk (.lst (WA++[.ref pk])) lk=some (.lst (WA++[.ref pk])):=aw
  generalize upd H5 lk (.lst (WA++[.ref pk]))=H6 at *
  left
  refine eZ (iY (by simp;lia)) ?_
  left
  rw [show (((WA++[V.ref pk]).length:Nat):Int)=(qs.length:Int)+1 by simp;lia]
  left
  rw [aan rfl]
  exact k _ rs (qs++[(w,m)]) S6 jw ⟨by simp;lia,fun q hq=>(aax.mp hq).elim (i8.2 q) fun z=>by rw [aaw.mp z];exact⟨l5,hf,hm,WL⟩⟩
theorem oj:Ok P w K mg base 44 "_law_asked" ["_law_desk","_law_cell_here","_law_commas","_law_keys"] (zz K):=by
 have S:=zK
 refine T.BR.lD S fun f bf A outer s H vs Q E hr h=>?_
 obtain @⟨d,lc,lk,H0,rs,qs,c,⟨S0,jw,i8⟩,k⟩:=h
 refine⟨_,(ag (eX (i:=4) S.nd rfl (Or.inr rfl) (aD (qO T) (hr.mono aa8) (aa (aA bE (aA eJ (pv 1) ah) ah) af))) (ag (bj (PW.pt (Cm (ptr bI (aA bE (aA eJ (pv 1) ah) ah) ah) (yc (ptr (EV K rfl hr.units) (pv 2) (bP af))))) (ai (eX (i:=4) S.nd rfl (Or.inr rfl) (aD (qN T) (hr.mono aa8) (aa (cX K (pv 2) (aA bE (aA eJ (pv 1) ah) (ax (bQ K rfl) rfl T.cL PySem.boot_len (aa (pv 2) af)))) (aa (aA lW (aA bE (aA eJ (pv 1) ah) ah) ah) (aa (cX K (pv 2) (xl oF ah)) af)))))) aK) (ag (bj (ptr bI (aA bE (pv 1) ah) ah) (ag (cy 5 S.nd (aD (Cf T) (hr.mono aa8) (aa (aB (yN K rfl) rfl T.DD boot_list (aa (pv 2) af)) (aa (pv 4) af)))) (ag (bj (eW (dC (aD (mT T) (hr.mono aa8) (aa (pv 2) (aa (pv 4) (aa (pv 5) af)))))) (ai (au jx)) aK) (ai (au (y4 bI (aD (cS T) (hr.mono aa8) (aa (pv 0) (aa (aA eO aG (aD (fh T) (hr.mono aa8) (aa (pv 4) af))) af))) (cX K (bP (aa aG (aa aG af))) (aB xJ rfl T.qG boot_int (aa (y4 bI (cX K (pv 5) ah) aG) af)))))))) aK) (ag (bj (ptr bI (aA bE (pv 1) ah) ah) (ag (cy 5 S.nd (fC PySem.F.plainAttrs_str PySem.F.slot_str_join PySem.F.type_str_join nQ aG (aa (kP ["_law_key","_law_span_here"] [none,some 4] (aR K rfl (pv 3)) (fun _ _ _ _ _=>(aq (i:=0) (nd ["_law_key","_law_span_here"]) rfl (Or.inl rfl))) (fun _ _ _ _ _=>rfl) (fun _ _ _ _ _=>(aB b8 rfl T.jm boot_str (aa (aD (fu T) (hr.mono aa8) (aa (pv 0) (aa (pv 1) af))) af)))) af))) (ai (au (y4 bI (aD (cS T) (hr.mono aa8) (aa (pv 0) (aa (aA eO aG (aD (fh T) (hr.mono aa8) (aa (pv 4) af))) af))) (pv 5))))) aK) (ai (au (y4 bI (aD (cS T) (hr.mono aa8) (aa (pv 0) (aa aG af))) (aD (sj T) (hr.mono aa8) (aa (pv 2) (aa (pv 3) af)))))))))),?_⟩
 left
 refine uZ aaa fun p0 r0 H1 s1 m1 WM=>?_
 have S1:=S0.same s1
 have h6:=jw.1
 have h7:=i8.1
 obtain ⟨⟨_,_,_,_,us,vs,_,_,_,⟨b3,w3⟩,⟨b4,w4⟩,_⟩,_,_,_⟩:=id S1
 have l3:=w3.length
 have l4:=w4.length
 walk_at "j"
 refine join (fun σ' H'=>∃ (p:Addr) (r:List Int),σ'=[some (.ref d),some (.int c),some (.ref lc),some (.ref lk),some (.ref p),none]/\aj H1 H'/\aC K H' p (r.map V.int)/\RB 18 4 r) (fun nx kn=>?_) (fun σ' H2 hp=>?_)
 ·left
  refine aW (fun h4=>?_) (fun h4=>?_)
  rotate_left
  ·refine bZ rfl ?_
   left
   exact kn _ _ ⟨p0,r0,rfl,aj.refl _,aC.of m1,WM.mono aa8 aa8⟩
  left
  rename_i p2 H2 n2 s2 m2
  refine OP (.lst (aP.of (s2 _ _ b3)) (w3.same s2).tells) (show dP K H2 (.ref p2) (.list (([]:List (List Int)).map fun r=>.tuple (r.map PyData.int))) from .lst (aP.of m2) .nil) (qq _) (qq _) ?_
  rw [Gk]
  left
  refine aW (fun h5=>?_) (fun h5=>?_)
  rotate_left
  ·left
   exact kn _ _ ⟨p0,r0,rfl,s2,aC.of (s2 _ _ m1),WM.mono aa8 aa8⟩
  have oQ:0<us.length:=by
   rw [<- l3]
   refine List.length_pos_iff.mpr fun z=>?_
   rw [z] at h5
   exact absurd h5 aa8
  have XV:=s2 _ _ b3
  have w3':=w3.same s2
  obtain ⟨j,hj,YT⟩:∃ j:Nat,c / 16 % (us.length:Int)=j/\j<us.length:=⟨(c / 16 % (us.length:Int)).toNat,by have:=emod_nonneg (c / 16) (show (us.length:Int)≠0 by lia);lia,by have:=emod_lt_of_pos (c / 16) (show (0:Int)<us.length by lia);lia⟩
  obtain ⟨a1,q1,e1,GA,YU⟩:=w3'.get (i:=j) (aat YT)
  obtain ⟨a2,q2,e2,Tq,hq2⟩:=w3'.get (i:=us.length - 1) (aat aaa)
  have g1:us[j]?=some (.ref a1):=by rw [aat YT,e1]
  have g2:FE us (-1)=some (.ref a2):=by
   have rK:us≠[]:=fun z=>by rw [z] at oQ;exact absurd oQ aa8
   rw [<- List.dropLast_concat_getLast rK,Nr,<- e2,List.getLast_eq_getElem]
  have r1:=jw.2 q1 (mem_of YU)
  have r2:=jw.2 q2 (mem_of hq2)
  walk_at "v"
  rw [hj]
  refine dY (aP.of XV) (aX g1) ?_
  walk_at "v"
  refine dY (aP.of XV) g2 ?_
  left
  refine qM q1 q2 GA Tq (by rw [(fX (M:=9) r1 aa8 aa8).1,(fX (M:=9) r2 aa8 aa8).1]) (by rw [(fX (M:=9) r1 aa8 aa8).1];decide) (fun y hy=>.inr ?_) fun p4 H4 s4 m4=>?_
  ·have y1:=mI (fX (M:=9) r2 aa8 aa8).2 hy
   have z1:=Fh (x:=y) aaa
   have z2:=Fh (x:=c / 96 % 3 - 1) aaa
   unfold c7
   lia
  left
  exact kn _ _ ⟨p4,_,rfl,s2.trans s4,m4,NN r1 r2 aaa⟩
 obtain ⟨p,r,rfl,s2,mr,gp⟩:=hp
 have S2:=S1.same s2
 have XV:=s2 _ _ b3
 have b4':=s2 _ _ b4
 have v7:=fun v hv=>fX (M:=2 ^ 4) (jw.2 v hv) aa8 aa8
 have TF:=fX (M:=2 ^ 5) gp aa8 aa8
 left
 refine aW (fun h5=>?_) (fun h5=>?_)
 ·left
  rename_i l3' H3 n3 s3 m3
  have S3:=S2.same s3
  have mr3:=s3.at mr
  refine nY.c (b:=4) (R:=5) ⟨aP.of m3,w3.same (s2.trans s3),h6,fun v hv=>(v7 v hv).1,fun v hv=>(v7 v hv).2,aa8,mr3,TF.1,TF.2,aa8,S3.tb⟩ (fun t pl H4 ps v9 Ea mt mpl npl Sx Sm Ce=>?_) (fun t kt w key H4 v9 Ea mt mk mw f1 f2 f3 f4 f5=>?_)
  ·have S4:=S3.NI v9 Ea
   obtain ⟨⟨_,_,_,_,us4,_,_,_,_,⟨b6,w6⟩,_⟩,_,_,_⟩:=id S4
   have WN:=v9.at S3.tb mr3
   have sp4:=uq TF.1 (fun v hv=>(v7 v hv).1) Ce
   left
   refine cE.c ⟨aP.of b6,w6,jw,WN,gp,.inl ⟨pl,ps,mt,mpl,Sx,Sm,Ce⟩⟩ fun H5 s5=>?_
   left
   refine bZ rfl ?_
   left
   refine b9.c (s5.at WN) gp fun H6 s6=>?_
   left
   refine fb (bJ (by have:=gA gp;rw [show (Str.ofString "nothing ").length=8 by decide];lia)) ?_
   have S6:=S4.same (s5.trans s6)
   have mt6:=(s5.trans s6).at mt
   left
   refine uY S6 jw gp fun b H7 WO hT7 hb=>?_
   have S7:=S6.NI WO hT7
   have mt7:=WO.at S6.tb mt6
   obtain rfl:b=true:=hb.mpr sp4
   left
   rename_i l8 H8 n8 s8 m8
   left
   rw [aan aa8]
   exact k _ (S7.same s8)
  ·have S4:=S3.NI v9 Ea
   obtain ⟨⟨_,_,_,_,us4,_,_,_,_,⟨b6,w6⟩,_⟩,_,_,_⟩:=id S4
   have WN:=v9.at S3.tb mr3
   have sp4:=fun z=>f5 (f4 r TF.1 z)
   left
   refine cE.c ⟨aP.of b6,w6,jw,WN,gp,.inr ⟨kt,w,key,mt,mk,mw,f1,f2,f3,f4,f5⟩⟩ fun H5 s5=>?_
   left
   refine bZ rfl ?_
   left
   refine b9.c (s5.at WN) gp fun H6 s6=>?_
   left
   refine fb (bJ (by have:=gA gp;rw [show (Str.ofString "nothing ").length=8 by decide];lia)) ?_
   have S6:=S4.same (s5.trans s6)
   have mt6:=(s5.trans s6).at mt
   left
   refine uY S6 jw gp fun b H7 WO hT7 hb=>?_
   have S7:=S6.NI WO hT7
   have mt7:=WO.at S6.tb mt6
   obtain rfl:b=false:=by cases b with
    | false=>rfl
    | true=>exact absurd (hb.mp rfl) sp4
   left
   rename_i l8 H8 n8 s8 m8
   left
   rw [aan aa8]
   exact k _ (S7.same s8)
 left
 refine aW (fun ZY=>?_) (fun ZY=>?_)
 ·left
  refine dm (xs:=vs) [some (.ref p)] (fun j=>.str (nw (val (qs.getD j ([],0)).1 (qs.getD j ([],0)).2 r))) rfl (aP.of b4') aaa (fun j x H' Qc Oz s kc=>?_) (fun l2 H3 n3 s3 m3=>?_)
  ·obtain ⟨ak,wk,kk,rfl,g1,g2,g3⟩:=w4.get Oz
   have hq:=i8.2 kk (mem_of g3)
   have eq:qs.getD j ([],0)=kk:=by rw [List.getD,g3];rfl
   have Sz:=s2.trans s
   left
   refine cZ.c ⟨Sz.at g1,Sz.at g2,s.at mr,hq.1,TF.1,hq.2.2.1,rP (M:=14) (pA hq.2.1 aa8) aa8,rP (M:=5) TF.2 aa8⟩ fun H5 s5=>?_
   left
   refine eZ (Ff hq gp) ?_
   have:=kc _ s5
   rw [eq] at this
   exact this
  rw [We (fun q=>V.str (nw (val q.1 q.2 r))) aaa] at m3
  have hz:∀ z∈(qs.map fun q=>nw (val q.1 q.2 r)),z.length<=7:=fun z hz=>by
   obtain ⟨q,hq,rfl⟩:=aaD.mp hz
   exact ur (DA (i8.2 q hq) gp)
  left
  refine y0 (zs:=qs.map fun q=>nw (val q.1 q.2 r)) (by rw [m3,aaS];rfl) aa8 (by have:=DB hz;rw [aaz] at *;lia) ?_
  left
  refine b9.c (s3.at mr) gp fun H6 s6=>?_
  left
  refine fb (bJ (by have:=gA gp;rw [show (Str.ofString "sound ").length=6 by decide];lia)) ?_
  left
  refine Le (S2.same (s3.trans s6)) i8 gp fun H7 s7=>?_
  left
  rw [aan (by rfl)]
  exact k _ (S2.same ((s3.trans s6).trans s7))
 left
 refine NZ S2 jw i8 ⟨fun i H3 hi hh iI qR lK=>?_,fun b H3 iI hb qR lK=>?_⟩
 ·have S3:=S2.NI qR lK
  obtain ⟨⟨_,_,_,_,us4,vs4,_,_,_,⟨b6,w6⟩,⟨b7,w7⟩,_⟩,tb,_,_⟩:=id S3
  left
  refine j3 ⟨aP.of b6,w6,jw,aP.of b7,w7,i8,tb,fun i' H4 yB hh' Eb v9 Ea=>?_,fun b' H4 Eb Xn v9 Ea=>?_⟩
  ·obtain rfl:=KR hh iI hh' Eb
   left
   rw [aan rfl]
   exact k _ (S3.NI v9 Ea)
  ·exact absurd hh (Eb _ (mem_getD hi))
 ·have S3:=S2.NI qR lK
  obtain ⟨⟨_,_,_,_,us4,vs4,_,_,_,⟨b6,w6⟩,⟨b7,w7⟩,_⟩,tb,_,_⟩:=id S3
  left
  refine j3 ⟨aP.of b6,w6,jw,aP.of b7,w7,i8,tb,fun i' H4 yB hh' Eb v9 Ea=>?_,fun b' H4 Eb Xn v9 Ea=>?_⟩
  ·exact absurd hh' (iI _ (mem_getD yB))
  ·obtain rfl:b=b':=Bool.eq_iff_iff.mpr (hb.trans Xn.symm)
   left
   rw [aan rfl]
   exact k _ (S3.NI v9 Ea)
theorem SD(F:Ms K "law" "law" nR f fd):lh P w K mg base CJ 45 f fd ["_law_script"] ((Df "parted" V9 "parted.<locals>.<lambda>") K):=by
 have S:=Sj
 refine F.ok S (fun vs H Q E h=>?_) (fun bf A outer s H vs Q E hr h=>?_)
 ·obtain ⟨_,_,rfl,_⟩:=h;rfl
 ·obtain ⟨a,ns,rfl,hS,hlen,hT,k⟩:=h
  have bT:=T.bT
  have aM:=T.aM
  have aE:=T.aE
  have aS:=T.aS
  have aN:=T.aN
  refine⟨_,(ag (cy 1 S.nd (RU (zO T) T.R9 (hr.mono aa8) rfl T.R8)) (ag (cy 2 S.nd (bP af)) (ag (cy 3 S.nd (bP af)) (ag (ck PassesOwn.never rfl (aR K rfl (cF (fM K rfl) (pv 0) dy (dz ah))) (aq (i:=4) S.nd rfl (Or.inl rfl)) (ag (bj (ptr qg (aA bE (pv 4) ah) ah) (ai (cy 5 S.nd (aD (Cg T) (hr.mono aa8) (aa (pv 1) (aa (pv 4) (aa (pv 2) (aa (pv 3) af))))))) (ai (cy 5 S.nd (aD (oj T) (hr.mono aa8) (aa (pv 1) (aa (pv 4) (aa (pv 2) (aa (pv 3) af)))))))) (ai (bj (eW (dC (pv 5))) (ai (au jx)) aK)))) (ag (ck PassesOwn.never rfl (cW K rfl (bA (aa ah (aa ah (aa ah af))))) (aq (i:=4) S.nd rfl (Or.inl rfl)) (ai (bj (eW (dC (aD (oj T) (hr.mono aa8) (aa (pv 1) (aa (aA lV (pv 4) (aA oC ah (aA bE (aD (Cc T) (hr.mono aa8) (aa (pv 0) (aa ah af))) ah))) (aa (pv 2) (aa (pv 3) af))))))) (ai (au jx)) aK))) (ai (au jx))))))),?_⟩
  left
  intro d dx nd ndx rK
  obtain ⟨H1,XY⟩:∃ H1,H1=upd (upd H dx (.own d)) d (.ins G.bg dx []):=⟨_,rfl⟩
  have XZ:aj H H1:=XY ▸ (aj.aZ ndx).trans (aj.aZ (by rw [ay (Ne.symm rK)];exact nd))
  have Xq:H1 d=some (.ins G.bg dx []):=by rw [XY];exact aw
  rw [<- XY]
  clear XY
  refine i6.c T.jW Xq fun c kk H2 nc nk nck ncd nkd ch mc mk dk=>⟨rfl,?_⟩
  left
  rename_i lc H3 n3 s3 m3 lk H4 n4 s4 m4
  have LS:=s3.trans s4
  have XR:=s4 _ _ m3
  have mc4:=LS _ _ mc
  have mk4:=LS _ _ mk
  obtain ⟨C,dx',t1,t2,hC,CD⟩:=id dk
  have hd4:=LS _ _ CD
  have tb1:=hT.same XZ
  have tb4:bR K H4:=(um tb1 ch Xq (fun _ z=>nomatch z) (fun _ _ z=>nomatch z)).same LS
  have nlc:lc≠d:=fun z=>by rw [z,CD] at n3;cases n3
  have nlk:lk≠d:=fun z=>by rw [z,s3 _ _ CD] at n4;cases n4
  have nlk2:lc≠lk:=fun z=>by rw [<- z,m3] at n4;cases n4
  have e1:c≠lc:=fun z=>by rw [<- z,mc] at n3;cases n3
  have e2:c≠lk:=fun z=>by rw [<- z,s3 _ _ mc] at n4;cases n4
  have e3:kk≠lc:=fun z=>by rw [<- z,mk] at n3;cases n3
  have e4:kk≠lk:=fun z=>by rw [<- z,s3 _ _ mk] at n4;cases n4
  have z0:H d=none/\H lc=none/\H lk=none:=⟨nd,XZ.new (ch.new n3 nlc),XZ.new (ch.new (s3.new n4) nlk)⟩
  have XT:lO K H H4:=(uo (aU.of XZ) ch nd).trans (aU.of LS)
  have S4:St K d lc lk H [] [] [] [] H4:=⟨⟨c,kk,[],[],[],[],dk.same LS,⟨mc4,.nil⟩,⟨mk4,.nil⟩,⟨XR,.nil⟩,⟨m4,.nil⟩,e1,e2,e3,e4,nlk2⟩,tb4,XT,z0⟩
  have hS4:=XT.seq hT hS
  left
  refine Rt (j:=12) hS4 fun l5 H5 n5 s5 m5=>?_
  have S5:=S4.same s5
  obtain ⟨H0,S6,tb0,sm0,Z7⟩:=S5.base
  have m50:=Z7 l5 _ (fun z=>by rw [z,hd4] at n5;cases n5) (fun z=>by rw [z,XR] at n5;cases n5) (fun z=>by rw [z,m4] at n5;cases n5) m5
  have hS0:=sm0.seq hT hS
  left
  refine jF (xs:=(ns.map V.int).take 12) (fun i σ H'=>∃ (o1 o2:Option V) (rs:List (List Int)) (qs:List (List Int×Int)),σ=[some (.ref a),some (.ref d),some (.ref lc),some (.ref lk),o1,o2]/\St K d lc lk H0 rs rs qs qs H'/\Fe rs/\KM qs) ⟨_,_,[],[],rfl,S6,⟨aa8,(fun _ h=>nomatch h)⟩,⟨aa8,(fun _ h=>nomatch h)⟩⟩ (fun i σ H' hp=>by obtain ⟨_,_,_,_,_,S,_⟩:=hp;exact aP.of (S.s0.lst tb0 m50)) (fun i x σ H' hx hp=>?_) (fun σ H' hp=>?_)
  ·obtain ⟨o1,o2,rs,qs,rfl,S,h1,h2⟩:=hp
   obtain ⟨v,_,rfl⟩:=aaD.mp (aar (aay hx))
   left
   refine aW (fun h5=>?_) (fun h5=>?_)
   ·left
    refine j1.c ⟨S,h1,h2⟩ fun H7 Wi LN S7 h3 h4=>?_
    left
    refine bZ rfl ?_
    exact⟨_,_,Wi,LN,rfl,S7,h3,h4⟩
   ·left
    refine ft.c ⟨S,h1,h2⟩ fun H7 S7=>?_
    left
    refine bZ rfl ?_
    exact⟨_,_,rs,qs,rfl,S7,h1,h2⟩
  obtain ⟨o1,o2,rs,qs,rfl,S,h1,h2⟩:=hp
  left
  rename_i t8 H8 s8 m8
  have S8:=S.same s8
  obtain ⟨H9,S9,tb9,HJ,hb9⟩:=S8.base
  have hn:=S8.nt m8
  have m9:=hb9 _ _ hn.1 hn.2.1 hn.2.2 m8
  have hS9:=HJ.seq tb0 hS0
  refine Dn (K:=K) (xs:=[.int 5,.int 6,.int 7]) (fun i σ H'=>∃ (o1 o2:Option V),σ=[some (.ref a),some (.ref d),some (.ref lc),some (.ref lk),o1,o2]/\St K d lc lk H9 rs rs qs qs H') ⟨_,_,rfl,S9⟩ (fun i σ H' hp=>by obtain ⟨_,_,_,S⟩:=hp;exact S.s0.at tb9 (aC.of m9)) (fun i x σ H' hx hp=>?_) (fun σ H' hp=>?_)
  ·obtain ⟨o3,o4,rfl,SA⟩:=hp
   obtain ⟨v,rfl⟩:∃ v:Int,x=.int v:=by
    match i,hx with
    | 0,hx|1,hx|2,hx=>cases hx;exact⟨_,rfl⟩
   have hSA:=SA.s0.seq tb9 hS9
   left
   refine ft.c ⟨SA,h1,h2⟩ fun HB SB=>?_
   left
   refine bZ rfl ?_
   exact⟨_,_,rfl,SB⟩
  obtain ⟨o3,o4,rfl,SA⟩:=hp
  left
  exact k _
end
set_option maxHeartbeats 2000000
theorem all_mk {l:OpenLaw} {w:World} {K:Frag} {h:Heap} {mg:Str->Option Value} {fa:Addr} (X:K.In h) (G0:h.Ns mainGlobals mg) (WQ:l.prog.given.tree=none) (hfa:mg "law"=some (.ref fa)) {lP Lq:Addr} (Tn:tabIn K "parted"=some (lP,Lq)) {f17 f61 SE SG:Addr} {od17 an17 od61 WR od62 an62 od63 an63:Option Addr} {sl17 sl61 sl62 sl63:Array (Option Value)} {oc17 kV17 dc17 pm17 ct17 oc61 WS WT WU SH WV oc62 kV62 dc62 pm62 WW ct62 oc63 kV63 dc63 pm63 WX ct63:Value} {de:Addr} {Lr:Addr} {SI:Option Addr} {SK:Nat} {SM:Array (Option Value)} {SN SO SQ SR SS:Tok} {vj:Addr} {Hi:Option Addr} {Hj:Nat} {Hk:Array (Option Value)} {Hl Ho Hq Hs Ht:Tok} {vk:Addr} {Hu:Option Addr} {Hv:Nat} {Hw:Array (Option Value)} {Hx Hy HA HC HD:Tok} {om:Addr} {HE:Nat} {vm vn vo vp vq vt vv vw vx vy qS qT qU vz vA vB vC vD vE vF vG vH vI qV qW qX:Tok} {kX:Addr} {Ec:Nat} {qY qZ rd rf rg rh rj rl rn rA oq ou ow:Tok} {gG:Addr} {gH:Addr} {gI:Addr} {gJ:Addr} {gK:Addr} {gL:Addr} {j5:Addr} {j6:Addr} {j7:Addr} {j8:Addr} {ja:Addr} {jb:Addr} {jc:Addr} {j9:Addr} {zR:Nat} {xg xh:Tok} {zS:Option Addr} {zT:Array (Option Value)} {gd:Addr} {sk:Nat} {pP pQ:Tok} {sr:Option Addr} {su:Array (Option Value)} {cf:Tok} {eQ:Tok} {gC:Tok} {sN:Tok} {cY:Tok} {cg:Addr} {zU:ClassData} {ka:Addr} {kd:Addr} {gf:Addr} {kf:Addr} {vJ:Addr} {pR:Addr} {vK:Addr} {vL:Addr} {pT:Addr} {pV:Addr} {pW:Addr} {vM:Addr} {vN:Addr} {pX:Addr} {mW:Addr}
     (zV:Nx K "Desk" de)
 (a0:dn K "is_counting" gS)
 (a1:dn K "is_signed" jI)
 (a2:dn K "parts_read" iS)
 (a3:dn K "divisor_of" iT)
 (a4:dn K "is_whole" mi)
 (a5:dn K "is_row" ua)
 (a6:dn K "is_tone" o7)
 (a7:dn K "tone_of" o8)
 (a8:dn K "over" Dr)
 (a9:dn K "power" y6)
 (a10:dn K "counted_out" gT)
 (a11:dn K "split_up" mj)
 (a12:dn K "row_of" ub)
 (a13:dn K "checked_commas" eC)
 (a14:dn K "unit" Dt)
 (a15:dn K "lead_place" iU)
 (a16:dn K "lowered" o9)
 (a17:Nx K "parted" f17) (l17:K.lookup f17=some ⟨oc17,od17,.func (PySem.W.fnOf "parted" "parted" (cV fQ) (bw fQ) (al fQ) .none kV17 dc17 pm17 an17 (.ref lP) ct17),sl17⟩) (c17:PySem.W.codeIn K (.ref lP) "parted"=true) (k17:PySem.W.keepIn K (.ref f17)=true)
 (a18:dn K "stepped" pe)
 (a19:dn K "marked_table" fR)
 (a20:dn K "table" y8)
 (a21:dn K "left_by" ph)
 (a22:dn K "rest_and_powers" d6)
 (a23:dn K "rest" Du)
 (a24:dn K "heard" y9)
 (a25:dn K "value" zc)
 (a26:dn K "by_place" my)
 (a27:dn K "product_of_leads" dG)
 (a28:dn K "weights_for" gU)
 (a29:dn K "key_of" uc)
 (a30:dn K "keys_by_place" fe)
 (a31:dn K "paper" zd)
 (a32:dn K "checked_keys" fS)
 (a33:dn K "values" ud)
 (a34:dn K "lost_among" iV)
 (a35:dn K "lost" Dv)
 (a36:dn K "line_words" iW)
 (a37:dn K "span_read" jJ)
 (a38:dn K "first_heard" gW)
 (a39:dn K "held" Dw)
 (a40:dn K "yes_or_no" jK)
 (a41:dn K "comma_answer" fT)
 (a42:dn K "key_kept" mB)
 (a43:dn K "key_answer" iX)
 (a44:dn K "ring_answer" gX)
 (a45:dn K "nothing_answer" eD)
 (a46:dn K "sound_answer" fU)
 (a47:dn K "same_answer" gY)
 (a48:dn K "_law_cell" mC)
 (a49:dn K "_law_plus" mD)
 (a50:dn K "_law_value" jL)
 (a51:dn K "_law_sum" pj)
 (a52:dn K "_law_fraction" fV)
 (a53:dn K "_law_class" jM)
 (a54:dn K "_law_told" mE)
 (a55:dn K "_law_span" mG)
 (a56:dn K "_law_numbers" gZ)
 (a57:dn K "_law_paper_right" d7)
 (a58:dn K "_law_same_due" fW)
 (a59:dn K "_law_kept" mH)
 (a60:dn K "_law_asked" jN)
 (a61:Nx K "law" f61) (l61:K.lookup f61=some ⟨oc61,od61,.func (PySem.W.fnOf "law" "law" (cV nR) (bw nR) (al nR) .none WS WT WU WR SH WV),sl61⟩) (c61:PySem.W.codeIn K SH "law"=true) (k61:PySem.W.keepIn K (.ref f61)=true)
 (a62:findIn K (.ref de) "__init__"=some (some (.ref SE))) (l62:K.lookup SE=some ⟨oc62,od62,.func (PySem.W.fnOf "__init__" "Desk.__init__" (cV cO) (bw cO) (al cO) .none kV62 dc62 pm62 an62 WW ct62),sl62⟩) (c62:PySem.W.codeIn K WW "Desk.__init__"=true) (k62:PySem.W.keepIn K (.ref SE)=true) (i62:isFn K (.ref SE)=true)
 (a63:findIn K (.ref de) "told"=some (some (.ref SG))) (l63:K.lookup SG=some ⟨oc63,od63,.func (PySem.W.fnOf "told" "Desk.told" (cV cP) (bw cP) (al cP) .none kV63 dc63 pm63 an63 WX ct63),sl63⟩) (c63:PySem.W.codeIn K WX "Desk.told"=true) (X0:PySem.W.keepIn K (.ref SG)=true) (i63:isFn K (.ref SG)=true)
     (zW:plainGet K de Str.empty=true) (zX:hasDictIn K de=true) (zY:plainOver K de=true) (zZ:findIn K (.ref de) "__setattr__"=some (some (.builtin "object.__setattr__"))) (z6:makesIn K de=true) (z7:PySem.W.keepIn K (.ref de)=true) (z8:findIn K (.ref de) "__init__"=some (some (.ref SE))) (jd:findIn K (.ref de) "told"=some (some (.ref SG))) (gh:findIn K (.ref de) "commas"=some none) (eH:findIn K (.ref de) "own_keys"=some none) (ic:findIn K (.ref de) "tunes"=some none) (gi:findIn K (.ref de) "chords"=some none)
     (Ls:Nx K "ONE" Lr) (Lu:K.lookup Lr=some ⟨.type "tuple",SI,.seq #[.int 0 SN,.int 0 SO,.int 0 SQ,.int 0 SR,.int 0 SS] SK,SM⟩) (vO:Nx K "PRIMES" vj) (vP:K.lookup vj=some ⟨.type "tuple",Hi,.seq #[.int 2 Hl,.int 3 Ho,.int 5 Hq,.int 7 Hs,.int 11 Ht] Hj,Hk⟩) (vQ:Nx K "BOUNDS" vk) (vR:K.lookup vk=some ⟨.type "tuple",Hu,.seq #[.int 700 Hx,.int 60 Hy,.int 60 HA,.int 60 HC,.int 60 HD] Hv,Hw⟩) (vS:Nx K "COUNTS" om) (pY:Nx K "ANSWERS" kX) (kg:Nx K "WITH_TEXT" j9) (gj:Nx K "WITH_NUMBERS" gd) (vU:K.lookup om=some ⟨.type "dict",none,.dict #[⟨PySem.PyData.keyHash w.params "comma",.str "comma" vm,.int 1 vz⟩,⟨PySem.PyData.keyHash w.params "key",.str "key" vn,.int 5 vA⟩,⟨PySem.PyData.keyHash w.params "ring",.str "ring" vo,.int 6 vB⟩,⟨PySem.PyData.keyHash w.params "nothing",.str "nothing" vp,.int 1 vC⟩,⟨PySem.PyData.keyHash w.params "sound",.str "sound" vq,.int 1 vD⟩,⟨PySem.PyData.keyHash w.params "same",.str "same" vt,.int 0 vE⟩,⟨PySem.PyData.keyHash w.params "forget",.str "forget" vv,.int 0 vF⟩,⟨PySem.PyData.keyHash w.params "tune",.str "tune" vw,.int 2 vG⟩,⟨PySem.PyData.keyHash w.params "move",.str "move" vx,.int 2 vH⟩,⟨PySem.PyData.keyHash w.params "show",.str "show" vy,.int 1 vI⟩,⟨PySem.PyData.keyHash w.params "alike",.str "alike" qS,.int 2 qV⟩,⟨PySem.PyData.keyHash w.params "chord",.str "chord" qT,.int 3 qW⟩,⟨PySem.PyData.keyHash w.params "steps",.str "steps" qU,.int 2 qX⟩] HE,#[]⟩) (je:(om == PySem.sysModules)=false) (pZ:K.lookup kX=some ⟨.type "dict",none,.dict #[⟨PySem.PyData.keyHash w.params "comma",.str "comma" qY,.ref gG⟩,⟨PySem.PyData.keyHash w.params "key",.str "key" qZ,.ref gH⟩,⟨PySem.PyData.keyHash w.params "ring",.str "ring" rd,.ref gI⟩,⟨PySem.PyData.keyHash w.params "nothing",.str "nothing" rf,.ref gJ⟩,⟨PySem.PyData.keyHash w.params "sound",.str "sound" rg,.ref gK⟩,⟨PySem.PyData.keyHash w.params "same",.str "same" rh,.ref gL⟩,⟨PySem.PyData.keyHash w.params "forget",.str "forget" rj,.ref j5⟩,⟨PySem.PyData.keyHash w.params "tune",.str "tune" rl,.ref j6⟩,⟨PySem.PyData.keyHash w.params "move",.str "move" rn,.ref j7⟩,⟨PySem.PyData.keyHash w.params "show",.str "show" rA,.ref j8⟩,⟨PySem.PyData.keyHash w.params "alike",.str "alike" oq,.ref ja⟩,⟨PySem.PyData.keyHash w.params "chord",.str "chord" ou,.ref jb⟩,⟨PySem.PyData.keyHash w.params "steps",.str "steps" ow,.ref jc⟩] Ec,#[]⟩) (ie:(kX == PySem.sysModules)=false) (kh:Nx K "comma_answer" gG) (ki:Nx K "key_answer" gH) (kj:Nx K "ring_answer" gI) (kr:Nx K "nothing_answer" gJ) (ku:Nx K "sound_answer" gK) (kB:Nx K "same_answer" gL) (kC:K.lookup j9=some ⟨.type "tuple",zS,.seq #[.str "tune" xg,.str "chord" xh] zR,zT⟩) (gk:K.lookup gd=some ⟨.type "tuple",sr,.seq #[.str "key" pP,.str "ring" pQ] sk,su⟩) (cT:PySem.W.nsIn K mainGlobals "MOST_FIGURES_spans"=some (some (.int 60 cf))) (ig:PySem.W.nsIn K mainGlobals "MOST_COMMAS"=some (some (.int 6 eQ))) (kD:PySem.W.nsIn K mainGlobals "MOST_KEYS"=some (some (.int 6 gC))) (z9:PySem.W.nsIn K mainGlobals "WIDTH"=some (some (.int 5 sN))) (eK:PySem.W.nsIn K mainGlobals "NUMBER_FIGURES"=some (some (.int 4 cY))) (gM:Nx K "YardError" cg) (jf:typeIn K (.ref cg)=some (.type "type")) (jg:clsIn K cg=some zU) (jh:subIn K (.ref cg) (.type "BaseException")=some true) (kY:NA K "TooFar" ka) (kZ:NA K "NoSpan" kd) (gN:NA K "NoCommas" gf) (k7:NA K "NoKeys" kf) (vV:Nx K "NoName" vJ) (qa:Nx K "NoBoard" pR) (vW:Nx K "NoTune" vK) (vX:Nx K "BadBar" vL) (qb:Nx K "BadNote" pT) (qc:Nx K "NoStack" pV) (qd:Nx K "NoChord" pW) (vY:Nx K "NoLine" vM) (vZ:Nx K "NoNote" vN) (qe:Nx K "NoScale" pX) (mY:Nx K "NoLength" mW) (Lv:Dp K [ka,kd,gf,kf] [ka,kd,gf,kf,vJ,pR,vK,vL,pT,pV,pW,vM,vN,pX,mW]=true) (bV:subIn K (.ref ka) (.ref cg)=some true) (bW:subIn K (.ref kd) (.ref cg)=some true) (bG:subIn K (.ref gf) (.ref cg)=some true) (bX:subIn K (.ref kf) (.ref cg)=some true) (ji:N0 K "ValueError") (Lw:N0 K "abs") (Lx:N0 K "all") (Ly:N0 K "any") (Ed:N0 K "bool") (kE:N0 K "enumerate") (Lz:N0 K "int") (jj:N0 K "isinstance") (LA:N0 K "len") (Ef:N0 K "list") (LC:N0 K "max") (Aa:N0 K "range") (v5:N0 K "sorted") (LD:N0 K "str") (LF:N0 K "sum") (Ab:N0 K "tuple") (LG:N0 K "zip") :
    ∃ fd:FuncData,(∀ (s:Shared) (v:Value),BindsTo s fd ⟨[v],[]⟩ [("_law_script",v)])/\∀ base:Heap,K.In base->base.Ns mainGlobals mg->CodeHd base lP Lq->base.BuiltinsAt mg Lq->base.NoSeer->lh l.prog w K mg base CJ 45 fa fd ["_law_script"] ((Df "parted" V9 "parted.<locals>.<lambda>") K):=by
  have e:=hfa.symm.trans (mg_of X G0 a61)
  cases e
  have uG:Ni K mg "parted" fQ ["vectors","place"] lP:=⟨_,_,_,_,_,_,_,_,_,_,rfl,l17,c17,k17,mg_of X G0 a17,.all fun us hl=>match us,hl with|[_,_],_=>rfl⟩
  have F61:=yo (st:=nR) l61 c61 k61
  have F62:=yo (st:=cO) l62 c62 k62
  have jX:Bf K SE "__init__" "Desk.__init__" cO ["self"]:=⟨_,F62,F62.binds (ps:=["self"]) fun _ _ _ _ _ _ us hl=>V6 us hl fun _=>rfl⟩
  have F63:=yo (st:=cP) l63 c63 X0
  have jY:Bf K SG "told" "Desk.told" cP ["self","line"]:=⟨_,F63,F63.binds (ps:=["self","line"]) fun _ _ _ _ _ _ us hl=>V7 us hl fun _ _=>rfl⟩
  refine⟨PySem.W.fnOf "law" "law" (cV nR) (bw nR) (al nR) .none WS WT WU WR SH WV,fun s v=>.of_eq rfl,fun base _ _ SU SV WY=>?_⟩
  have WZ:CodeHd base lP (yX K "parted")/\base.BuiltinsAt mg (yX K "parted"):=by rw [E1 Tn];exact⟨SU,SV⟩
  have Y:base.NoSeer/\l.prog.given.tree=none:=⟨WY,WQ⟩
  have T:Txt l.prog w K mg base ⟨Lr,vj,vk,cg,ka,kd,gf,kf,vJ,pR,vK,vL,pT,pV,pW,vM,vN,pX,mW,om,kX,gG,gH,gI,gJ,gK,gL,j5,j6,j7,j8,ja,jb,jc,j9,gd,de,SE,SG,cf,eQ,gC,sN,cY,lP⟩:=⟨mg_none_of X G0 ji,mg_none_of X G0 Lw,mg_none_of X G0 Lx,mg_none_of X G0 Ly,mg_none_of X G0 Ed,mg_none_of X G0 kE,mg_none_of X G0 Lz,mg_none_of X G0 jj,mg_none_of X G0 LA,mg_none_of X G0 Ef,mg_none_of X G0 LC,mg_none_of X G0 Aa,mg_none_of X G0 v5,mg_none_of X G0 LD,mg_none_of X G0 LF,mg_none_of X G0 Ab,mg_none_of X G0 LG,mg_of X G0 Ls,fun H=>.inr ⟨_,_,_,Lu,rfl,rfl,by show 5 <= sizeLine;decide,(.cons ⟨_,rfl⟩ (.cons ⟨_,rfl⟩ (.cons ⟨_,rfl⟩ (.cons ⟨_,rfl⟩ (.cons ⟨_,rfl⟩ .nil)))))⟩,mg_of X G0 vO,fun H=>.inr ⟨_,_,_,vP,rfl,rfl,by show 5 <= sizeLine;decide,(.cons ⟨_,rfl⟩ (.cons ⟨_,rfl⟩ (.cons ⟨_,rfl⟩ (.cons ⟨_,rfl⟩ (.cons ⟨_,rfl⟩ .nil)))))⟩,mg_of X G0 vQ,fun H=>.inr ⟨_,_,_,vR,rfl,rfl,by show 5 <= sizeLine;decide,(.cons ⟨_,rfl⟩ (.cons ⟨_,rfl⟩ (.cons ⟨_,rfl⟩ (.cons ⟨_,rfl⟩ (.cons ⟨_,rfl⟩ .nil)))))⟩,mg_of X G0 vS,mg_of X G0 pY,mg_of X G0 kg,mg_of X G0 gj,Nu (xs:=[("comma",vm,1,vz),("key",vn,5,vA),("ring",vo,6,vB),("nothing",vp,1,vC),("sound",vq,1,vD),("same",vt,0,vE),("forget",vv,0,vF),("tune",vw,2,vG),("move",vx,2,vH),("show",vy,1,vI),("alike",qS,2,qV),("chord",qT,3,qW),("steps",qU,2,qX)]) vU je (show N6 ["comma","key","ring","nothing","sound","same","forget","tune","move","show","alike","chord","steps"] by decide +kernel),RP (xs:=[("comma",qY,gG),("key",qZ,gH),("ring",rd,gI),("nothing",rf,gJ),("sound",rg,gK),("same",rh,gL),("forget",rj,j5),("tune",rl,j6),("move",rn,j7),("show",rA,j8),("alike",oq,ja),("chord",ou,jb),("steps",ow,jc)]) pZ ie (show N6 ["comma","key","ring","nothing","sound","same","forget","tune","move","show","alike","chord","steps"] by decide +kernel),mg_of X G0 kh,mg_of X G0 ki,mg_of X G0 kj,mg_of X G0 kr,mg_of X G0 ku,mg_of X G0 kB,fun H=>.inr ⟨_,_,_,kC,rfl,rfl,by show 2 <= sizeLine;decide,(.cons ⟨_,rfl⟩ (.cons ⟨_,rfl⟩ .nil))⟩,fun H=>.inr ⟨_,_,_,gk,rfl,rfl,by show 2 <= sizeLine;decide,(.cons ⟨_,rfl⟩ (.cons ⟨_,rfl⟩ .nil))⟩,mg_of X G0 cT,mg_of X G0 ig,mg_of X G0 kD,mg_of X G0 z9,mg_of X G0 eK,mg_of X G0 gM,gM,A2.mk' jf jg jh,mg_of X G0 kY.ns,kY,mg_of X G0 kZ.ns,kZ,mg_of X G0 gN.ns,gN,mg_of X G0 k7.ns,k7,mg_of X G0 vV,mg_of X G0 qa,mg_of X G0 vW,mg_of X G0 vX,mg_of X G0 qb,mg_of X G0 qc,mg_of X G0 qd,mg_of X G0 vY,mg_of X G0 vZ,mg_of X G0 qe,mg_of X G0 mY,mg_of X G0 zV,zV,⟨zW,zX,zY,zZ⟩,⟨z6,z8,i62,z7⟩,⟨jd,i63,X0⟩,gh,eH,ic,gi,Lv,bV,bW,bG,bX,Y,WZ,a0.dg X G0,a1.dg X G0,a2.dg X G0,a3.dg X G0,a4.dg X G0,a5.dg X G0,a6.dg X G0,a7.dg X G0,a8.dg X G0,a9.dg X G0,a10.dg X G0,a11.dg X G0,a12.dg X G0,a13.dg X G0,a14.dg X G0,a15.dg X G0,a16.dg X G0,uG,a18.dg X G0,a19.dg X G0,a20.dg X G0,a21.dg X G0,a22.dg X G0,a23.dg X G0,a24.dg X G0,a25.dg X G0,a26.dg X G0,a27.dg X G0,a28.dg X G0,a29.dg X G0,a30.dg X G0,a31.dg X G0,a32.dg X G0,a33.dg X G0,a34.dg X G0,a35.dg X G0,a36.dg X G0,a37.dg X G0,a38.dg X G0,a39.dg X G0,a40.dg X G0,a41.dg X G0,a42.dg X G0,a43.dg X G0,a44.dg X G0,a45.dg X G0,a46.dg X G0,a47.dg X G0,a48.dg X G0,a49.dg X G0,a50.dg X G0,a51.dg X G0,a52.dg X G0,a53.dg X G0,a54.dg X G0,a55.dg X G0,a56.dg X G0,a57.dg X G0,a58.dg X G0,a59.dg X G0,a60.dg X G0,jX,jY⟩
  exact SD T F61
end Law
open PySem PySem.W PyProof.Rows
set_option maxRecDepth 100000 in
theorem PySem.Challenge.cw_tuningyard_k81_desk_commas_and_keys_holds : PySem.Challenge.rw_tuningyard_k81_desk_commas_and_keys.Holds := by
 w_on;refine Hd ?_
 k_fill
 refine' L2.Kf (l:=PySem.Challenge.rw_tuningyard_k81_desk_commas_and_keys) (c:=350) (P:=348) (k:=45) (x:="_law_script") "parted" Law.V9 "parted.<locals>.<lambda>" TH rfl rfl ⟨rfl,aa8,aa8⟩ ?hY ?ht ?hh ?hk ?F
 case hY=>exact fun w h Y=>⟨PySem.W.km_in_of Y,PySem.W.km_tabs_of Y _ (.tail _ (.tail _ (.tail _ (List.Mem.head _))))⟩
 case ht=>intro w;kernel_rfl
 case hh=>intro w;kernel_rfl
 case hk=>intro w;kernel_rfl
 case F =>
  intro w mg fa h KX G Ut Tn
  refine' Law.all_mk KX G rfl Ut Tn ?zV ?a0 ?a1 ?a2 ?a3 ?a4 ?a5 ?a6 ?a7 ?a8 ?a9 ?a10 ?a11 ?a12 ?a13 ?a14 ?a15 ?a16 ?a17 ?l17 ?c17 ?k17 ?a18 ?a19 ?a20 ?a21 ?a22 ?a23 ?a24 ?a25 ?a26 ?a27 ?a28 ?a29 ?a30 ?a31 ?a32 ?a33 ?a34 ?a35 ?a36 ?a37 ?a38 ?a39 ?a40 ?a41 ?a42 ?a43 ?a44 ?a45 ?a46 ?a47 ?a48 ?a49 ?a50 ?a51 ?a52 ?a53 ?a54 ?a55 ?a56 ?a57 ?a58 ?a59 ?a60 ?a61 ?l61 ?c61 ?k61 ?a62 ?l62 ?c62 ?k62 ?i62 ?a63 ?l63 ?c63 ?X0 ?i63 ?zW ?zX ?zY ?zZ ?z6 ?z7 ?z8 ?jd ?gh ?eH ?ic ?gi ?Ls ?Lu ?vO ?vP ?vQ ?vR ?vS ?pY ?kg ?gj ?vU ?je ?pZ ?ie ?kh ?ki ?kj ?kr ?ku ?kB ?kC ?gk ?cT ?ig ?kD ?z9 ?eK ?gM ?jf ?jg ?jh ?kY ?kZ ?gN ?k7 ?vV ?qa ?vW ?vX ?qb ?qc ?qd ?vY ?vZ ?qe ?mY ?Lv ?bV ?bW ?bG ?bX ?ji ?Lw ?Lx ?Ly ?Ed ?kE ?Lz ?jj ?LA ?Ef ?LC ?Aa ?v5 ?LD ?LF ?Ab ?LG
  case zV=>(show _=_);k_is
  case a0|a1|a2|a3|a4|a5|a6|a7|a8|a9|a10|a11|a12|a13|a14|a15|a16=>refine' L2.Km ?a ?l ?c ?k;case a|l|c|k=>k_is
  case a17|l17|c17|k17=>(show _=_);k_is
  case a18|a19|a20|a21|a22|a23|a24|a25|a26|a27|a28|a29|a30|a31|a32|a33|a34|a35|a36|a37|a38|a39|a40|a41|a42|a43|a44|a45|a46|a47|a48|a49|a50|a51|a52|a53|a54|a55|a56|a57|a58|a59|a60=>refine' L2.Km ?a ?l ?c ?k;case a|l|c|k=>k_is
  case a61|l61|c61|k61|a62|l62|c62|k62|i62|a63|l63|c63|X0|i63|zW|zX|zY|zZ|z6|z7|z8|jd|gh|eH|ic|gi|Ls|Lu|vO|vP|vQ|vR|vS|pY|kg|gj|vU=>(show _=_);k_is
  case je=>decide
  case pZ=>(show _=_);k_is
  case ie=>decide
  case kh|ki|kj|kr|ku|kB|kC|gk|cT|ig|kD|z9|eK|gM|jf|jg|jh=>(show _=_);k_is
  case kY|kZ|gN|k7=>(refine' L2.RW ?a ?b ?c ?d ?e ?f ?g ?i ?j ?k ?l ?m);(case a|b|c|d|e|f|g|i|j|k|m=>k_is);(case l=>k_exc)
  case vV|qa|vW|vX|qb|qc|qd|vY|vZ|qe|mY=>(show _=_);k_is
  case Lv=>kernel_rfl
  case bV|bW|bG|bX|ji|Lw|Lx|Ly|Ed|kE|Lz|jj|LA|Ef|LC|Aa|v5|LD|LF|Ab|LG=>(show _=_);k_is
