import PyProof.Rows.All
import Wide.All
import OpenK.AllK
import Wide.FinOn
import HandS.ForMost
import HandS.Wide
import HandS.IsInst
import HandS.TupAny
import HandS.Deep
import HandS.SortInts
import HandS.ExcInit
import HandS.Lambda
import PyProof.ReprRoads
import HandS.WideBits
import HandS.TryOnly
import HandS.WordsExc
import HandS.Style
import HandS.Flow
import HandS.SetFor
import HandS.Conv
import HandS.Strs
import HandS.WrittenGet
import HandS.TupLe
import HandS.Text
import HandS.Zip
import KE.GoesMore
import PyProof.ReprLen
import PyProof.ZipIter
import PyProof.ListNew
import HandS.Defaults
import HandS.Star
import HandS.TupMul
import KE.KExcIs
import HandS.EndTab
import HandS.ExcIs
import HandS.Dict
import HandS.Comp
import HandS.SetTxt0
import HandS.Small
import PyProof.StrOps2
import PyProof.ReprDict
import PySem.Challenge.RW_stillranges_k04_errors_by_their_classes
set_option Elab.async false
set_option linter.all false
set_option maxRecDepth 100000
set_option maxHeartbeats 4000000
def PySem.W.Fast.tw11694453857565667537 : Nat := 0
def PySem.W.Fast.tw3895592853716064893 : Nat := 0
def PySem.W.Fast.tw18423136769944780929 : Nat := 0
def PySem.W.Fast.tw12871922914788887068 : Nat := 0
def PySem.W.Fast.tw2238073926184346760 : Nat := 0
def PySem.W.Fast.tw13545253638538819637 : Nat := 0
def PySem.W.Fast.tw8110629324187882046 : Nat := 0
def PySem.W.Fast.tw14661618743184927889 : Nat := 0
def PySem.W.Fast.tw1295387437272745525 : Nat := 0
def PySem.W.Fast.tw6281478566122233957 : Nat := 0
def PySem.W.Fast.tw1498490238532442115 : Nat := 0
def PySem.W.Fast.tw9866164645465492349 : Nat := 0
def PySem.W.Fast.tw8476395915103837273 : Nat := 0
def PySem.W.Fast.tw775451698602535280 : Nat := 0
def PySem.W.Fast.tw1071016431803116648 : Nat := 0
def PySem.W.Fast.tw12014845548518402888 : Nat := 0
def PySem.W.Fast.tw2263933341260307499 : Nat := 0
def PySem.W.Fast.tw15624148178333043060 : Nat := 0
def PySem.W.Fast.tw1386533165724208400 : Nat := 0
def PySem.W.Fast.tw5456335971237895598 : Nat := 0
def PySem.W.Fast.tw493103113550247874 : Nat := 0
def PySem.W.Fast.tw1717396075755959762 : Nat := 0
def PySem.W.Fast.tw7850585721960053988 : Nat := 0
def PySem.W.Fast.tw5799851467528121395 : Nat := 0
def PySem.W.Fast.tw1378553874397484336 : Nat := 0
def PySem.W.Fast.tw6749551356884930656 : Nat := 0
def PySem.W.Fast.tw18353320665471255551 : Nat := 0
def PySem.W.Fast.tw8779202087854697581 : Nat := 0
def PySem.W.Fast.tw7370062603131991417 : Nat := 0
def PySem.W.Fast.tw7640129622776922201 : Nat := 0
def PySem.W.Fast.tw3078476838925693468 : Nat := 0
def PySem.W.Fast.tw15871928412502621681 : Nat := 0
def PySem.W.Fast.tw8931666198186844741 : Nat := 0
def PySem.W.Fast.tw8525741468796079719 : Nat := 0
def PySem.W.Fast.tw11961994938266875444 : Nat := 0
def PySem.W.Fast.tw1014795898277128147 : Nat := 0
def PySem.W.Fast.tw17020237125676126143 : Nat := 0
def PySem.W.Fast.tw16564405851421790300 : Nat := 0
def PySem.W.Fast.tw10958824591336491064 : Nat := 0
def PySem.W.Fast.tw13787240858808036256 : Nat := 0
def PySem.W.Fast.tw9224313215045834372 : Nat := 0
def PySem.W.Fast.tw10373913141243897885 : Nat := 0
def PySem.W.Fast.tw16516557941083685642 : Nat := 0
def PySem.W.Fast.tw5956320122766544677 : Nat := 0
def PySem.W.Fast.tw15196373231196386526 : Nat := 0
def PySem.W.Fast.tw571764126205672993 : Nat := 0
def PySem.W.Fast.tw14138793378540548280 : Nat := 0
def PySem.W.Fast.tw7098837773245706387 : Nat := 0
def PySem.W.Fast.tw2721784563017220605 : Nat := 0
def PySem.W.Fast.tw15168664382773438183 : Nat := 0
def PySem.W.Fast.tw9883296497076865049 : Nat := 0
def PySem.W.Fast.tw6702561451663339452 : Nat := 0
def PySem.W.Fast.tw14961672134312852813 : Nat := 0
def PySem.W.Fast.tw71317299823427666 : Nat := 0
def PySem.W.Fast.tw17806849250435447097 : Nat := 0
def PySem.W.Fast.tw8604332604194621662 : Nat := 0
def PySem.W.Fast.tw14478044693450270164 : Nat := 0
def PySem.W.Fast.tw4108701849538732449 : Nat := 0
def PySem.W.Fast.tw2888963945538394148 : Nat := 0
def PySem.W.Fast.tw9620577794943520546 : Nat := 0
def PySem.W.Fast.tw16507321685043993697 : Nat := 0
def PySem.W.Fast.tw6751194506850720771 : Nat := 0
def PySem.W.Fast.tw357506857157088571 : Nat := 0
def PySem.W.Fast.tw14004360197827627602 : Nat := 0
def PySem.W.Fast.tw5072080480519918464 : Nat := 0
def PySem.W.Fast.tw9774297926015710524 : Nat := 0
def PySem.W.Fast.tw16164548141592769709 : Nat := 0
def PySem.W.Fast.tw13378640118497889999 : Nat := 0
def PySem.W.Fast.tw1751523612318103743 : Nat := 0
def PySem.W.Fast.tw17328092022852817237 : Nat := 0
def PySem.W.Fast.tw16836484646973463948 : Nat := 0
def PySem.W.Fast.tw14927263624399391470 : Nat := 0
def PySem.W.Fast.tw17366958015322147939 : Nat := 0
def PySem.W.Fast.tw11982270796926675188 : Nat := 0
def PySem.W.Fast.tw17618453083825109970 : Nat := 0
def PySem.W.Fast.tw10757580402352363496 : Nat := 0
def PySem.W.Fast.tw5150019409461857671 : Nat := 0
def PySem.W.Fast.tw12357667095783009441 : Nat := 0
def PySem.W.Fast.tw16497949349321461458 : Nat := 0
def PySem.W.Fast.tw6881260541993324389 : Nat := 0
def PySem.W.Fast.tw7444884397342999040 : Nat := 0
def PySem.W.Fast.tw744231293696080642 : Nat := 0
def PySem.W.Fast.tw13764304957807655047 : Nat := 0
def PySem.W.Fast.tw15201596214896673721 : Nat := 0
def PySem.W.Fast.tw18047950356921906408 : Nat := 0
def PySem.W.Fast.tw6475123227851758861 : Nat := 0
def PySem.W.Fast.tw15476181990609257140 : Nat := 0
def PySem.W.Fast.tw6678773818995310156 : Nat := 0
def PySem.W.Fast.tw12134312401509564562 : Nat := 0
def PySem.W.Fast.tw11417542972946185637 : Nat := 0
def PySem.W.Fast.tw3561294627863575653 : Nat := 0
def PySem.W.Fast.tw4379060267767218647 : Nat := 0
def PySem.W.Fast.tw6319935048950559021 : Nat := 0
def PySem.W.Fast.tw3908388086083941220 : Nat := 0
def PySem.W.Fast.tw12082797447157277202 : Nat := 0
def PySem.W.Fast.tw13439643428114203152 : Nat := 0
def PySem.W.Fast.tw2880803117288525140 : Nat := 0
def PySem.W.Fast.tw7024561838567016493 : Nat := 0
def PySem.W.Fast.tw2016361886933835569 : Nat := 0
def PySem.W.Fast.tw1381531424832661784 : Nat := 0
def PySem.W.Fast.tw8377158064545914127 : Nat := 0
def PySem.W.Fast.tw10020948063766975045 : Nat := 0
def PySem.W.Fast.tw15029971122836553578 : Nat := 0
def PySem.W.Fast.tw16262694958525976819 : Nat := 0
def PySem.W.Fast.tw12176158322814021010 : Nat := 0
def PySem.W.Fast.tw4066849838826330193 : Nat := 0
def PySem.W.Fast.tw3309146423875719925 : Nat := 0
def PySem.W.Fast.tw12270089743125259692 : Nat := 0
def PySem.W.Fast.tw15508049241182164158 : Nat := 0
def PySem.W.Fast.tw12181069538723106709 : Nat := 0
def PySem.W.Fast.tw5638566979260122135 : Nat := 0
def PySem.W.Fast.tw5631929469762695418 : Nat := 0
def PySem.W.Fast.tw1413062530619373517 : Nat := 0
def PySem.W.Fast.tw4674260832503562525 : Nat := 0
def PySem.W.Fast.tw12394770586829365233 : Nat := 0
def PySem.W.Fast.tw9754972519145276574 : Nat := 0
def PySem.W.Fast.tw2547837376169394991 : Nat := 0
def PySem.W.Fast.tw6294719735334386489 : Nat := 0
def PySem.W.Fast.tw959947448462719876 : Nat := 0
def PySem.W.Fast.tw10783446308472614501 : Nat := 0
def PySem.W.Fast.tw9004924182272998188 : Nat := 0
def PySem.W.Fast.tw14313621832927655796 : Nat := 0
def PySem.W.Fast.tw8739959863792912834 : Nat := 0
def PySem.W.Fast.tw715422044766824852 : Nat := 0
def PySem.W.Fast.tw13028416268986042953 : Nat := 0
def PySem.W.Fast.tw2245852253435078866 : Nat := 0
def PySem.W.Fast.tw10409693246588736420 : Nat := 0
def PySem.W.Fast.tw18163968705297971971 : Nat := 0
def PySem.W.Fast.tw3559277229799023159 : Nat := 0
def PySem.W.Fast.tw5655635722338189932 : Nat := 0
def PySem.W.Fast.tw452857820968955758 : Nat := 0
def PySem.W.Fast.tw3388005104030338001 : Nat := 0
def PySem.W.Fast.tw2463114038540360015 : Nat := 0
def PySem.W.Fast.tw16008101306096498532 : Nat := 0
def PySem.W.Fast.tw498635780968504433 : Nat := 0
def PySem.W.Fast.tw12203569934962968812 : Nat := 0
def PySem.W.Fast.tw15788434899507284919 : Nat := 0
def PySem.W.Fast.tw3361695554368876403 : Nat := 0
def PySem.W.Fast.tw12405674456730868739 : Nat := 0
def PySem.W.Fast.tw13120728365015444420 : Nat := 0
def PySem.W.Fast.tw17314176781172961638 : Nat := 0
def PySem.W.Fast.tw6876162071820079225 : Nat := 0
def PySem.W.Fast.tw5099815289429190726 : Nat := 0
def PySem.W.Fast.tw404084759394798366 : Nat := 0
def PySem.W.Fast.tw901788371816697841 : Nat := 0
def PySem.W.Fast.tw373795730463406617 : Nat := 0
def PySem.W.Fast.tw12598480959473736009 : Nat := 0
def PySem.W.Fast.tw10100575653098718677 : Nat := 0
def PySem.W.Fast.tw2229622641173209705 : Nat := 0
def PySem.W.Fast.tw8460322301697702380 : Nat := 0
def PySem.W.Fast.tw2827815420210584796 : Nat := 0
def PySem.W.Fast.tw17774164206755803241 : Nat := 0
def PySem.W.Fast.tw16904632431151294500 : Nat := 0
def PySem.W.Fast.tw12178077135952847459 : Nat := 0
def PySem.W.Fast.tw11962062960225751671 : Nat := 0
def PySem.W.Fast.tw11268205955719177012 : Nat := 0
def PySem.W.Fast.tw8846466120737562256 : Nat := 0
def PySem.W.Fast.tw13607459485751835431 : Nat := 0
def PySem.W.Fast.tw3266175979219875700 : Nat := 0
def PySem.W.Fast.tw15087818128544392857 : Nat := 0
def PySem.W.Fast.tw7572623415059706213 : Nat := 0
def PySem.W.Fast.tw10057260175230533378 : Nat := 0
def PySem.W.Fast.tw7101003805573492199 : Nat := 0
def PySem.W.Fast.tw11877887571966297808 : Nat := 0
def PySem.W.Fast.tw11045146988807125659 : Nat := 0
def PySem.W.Fast.tw17156404442498975004 : Nat := 0
def PySem.W.Fast.tw10918807956181331578 : Nat := 0
def PySem.W.Fast.tw9751975191897689664 : Nat := 0
def PySem.W.Fast.tw17109016107297223742 : Nat := 0
def PySem.W.Fast.tw5028805167613681139 : Nat := 0
def PySem.W.Fast.tw1361273869484343778 : Nat := 0
def PySem.W.Fast.tw12231460456467062607 : Nat := 0
def PySem.W.Fast.tw4794093985097470314 : Nat := 0
def PySem.W.Fast.tw4100485629533263014 : Nat := 0
def PySem.W.Fast.tw9805425440240015090 : Nat := 0
def PySem.W.Fast.tw8353142112122193576 : Nat := 0
def PySem.W.Fast.tw1357015522723474929 : Nat := 0
def PySem.W.Fast.tw12715095861197412490 : Nat := 0
def PySem.W.Fast.tw14342913500453458392 : Nat := 0
def PySem.W.Fast.tw5937818551696233267 : Nat := 0
def PySem.W.Fast.tw2919178256729749007 : Nat := 0
def PySem.W.Fast.tw4886183089755557395 : Nat := 0
def PySem.W.Fast.tw14274290561735673736 : Nat := 0
def PySem.W.Fast.tw11255402900226241720 : Nat := 0
def PySem.W.Fast.tw17965697694247555189 : Nat := 0
def PySem.W.Fast.tw4075512750412614539 : Nat := 0
def PySem.W.Fast.tw2350163202430107640 : Nat := 0
def PySem.W.Fast.tw15113262695386643909 : Nat := 0
def PySem.W.Fast.tw10792668719244674178 : Nat := 0
def PySem.W.Fast.tw15983964179165878710 : Nat := 0
def PySem.W.Fast.tw6009695955018282679 : Nat := 0
def PySem.W.Fast.tw17905411181816094775 : Nat := 0
def PySem.W.Fast.tw14164842662969620346 : Nat := 0
def PySem.W.Fast.tw5029825924388546497 : Nat := 0
def PySem.W.Fast.tw18210901250957664390 : Nat := 0
def PySem.W.Fast.tw2015654939577115650 : Nat := 0
def PySem.W.Fast.tw6646162029720807337 : Nat := 0
def PySem.W.Fast.tw13342643960859844970 : Nat := 0
def PySem.W.Fast.tw16152955869058345433 : Nat := 0
def PySem.W.Fast.tw8864490096431801112 : Nat := 0
def PySem.W.Fast.tw4566492879866057876 : Nat := 0
def PySem.W.Fast.tw5341594476630564376 : Nat := 0
def PySem.W.Fast.tw8035265717902706198 : Nat := 0
def PySem.W.Fast.tw10889241241973820686 : Nat := 0
def PySem.W.Fast.tw1896157194834131799 : Nat := 0
def PySem.W.Fast.tw17359508479435265679 : Nat := 0
def PySem.W.Fast.tw2946818336263511319 : Nat := 0
def PySem.W.Fast.tw6817424867262999450 : Nat := 0
def PySem.W.Fast.tw7107691956696296701 : Nat := 0
def PySem.W.Fast.tw5720488597979900740 : Nat := 0
def PySem.W.Fast.tw4307628300778290881 : Nat := 0
def PySem.W.Fast.tw6069008635260160192 : Nat := 0
def PySem.W.Fast.tw1273607568979396782 : Nat := 0
def PySem.W.Fast.tw3869794445557696194 : Nat := 0
def PySem.W.Fast.tw15215585349485931731 : Nat := 0
def PySem.W.Fast.tw17443854960867350155 : Nat := 0
def PySem.W.Fast.tw8686073505171919034 : Nat := 0
def PySem.W.Fast.tw15411850317662684188 : Nat := 0
def PySem.W.Fast.tw16444107402452296418 : Nat := 0
def PySem.W.Fast.tw5684191924568991102 : Nat := 0
def PySem.W.Fast.tw9621828678741813275 : Nat := 0
def PySem.W.Fast.tw3413191798971547332 : Nat := 0
def PySem.W.Fast.tw15072002477042388987 : Nat := 0
def PySem.W.Fast.tw6544399761218087853 : Nat := 0
def PySem.W.Fast.tw12221485235805930603 : Nat := 0
def PySem.W.Fast.tw1176746919563817976 : Nat := 0
def PySem.W.Fast.tw4350416441720781478 : Nat := 0
def PySem.W.Fast.tw14807817532404446590 : Nat := 0
def PySem.W.Fast.tw5817078960231071633 : Nat := 0
def PySem.W.Fast.tw5502992606921282545 : Nat := 0
def PySem.W.Fast.tw4282892736683707735 : Nat := 0
def PySem.W.Fast.tw11358144131175325693 : Nat := 0
def PySem.W.Fast.tw16589056701416146086 : Nat := 0
def PySem.W.Fast.tw13556228820925955759 : Nat := 0
def PySem.W.Fast.tw6951464563017114950 : Nat := 0
def PySem.W.Fast.tw5812107976099600119 : Nat := 0
def PySem.W.Fast.tw9329442554328460520 : Nat := 0
def PySem.W.Fast.tw11643304198413739276 : Nat := 0
def PySem.W.Fast.tw12353272614193157100 : Nat := 0
def PySem.W.Fast.tw638251423667378931 : Nat := 0
def PySem.W.Fast.tw1416718808026706165 : Nat := 0
def PySem.W.Fast.tw15055627650280338686 : Nat := 0
def PySem.W.Fast.tw9130789564662119054 : Nat := 0
def PySem.W.Fast.tw10597757736140822253 : Nat := 0
def PySem.W.Fast.tw8177866005591274389 : Nat := 0
def PySem.W.Fast.tw6990943036945544197 : Nat := 0
def PySem.W.Fast.tw13761547906427376947 : Nat := 0
def PySem.W.Fast.tw2155612812867372428 : Nat := 0
def PySem.W.Fast.tw8305043708873116123 : Nat := 0
def PySem.W.Fast.tw16455324399425348767 : Nat := 0
def PySem.W.Fast.tw8946460247183824117 : Nat := 0
def PySem.W.Fast.tw16766391738454144767 : Nat := 0
def PySem.W.Fast.tw8858979873976690743 : Nat := 0
def PySem.W.Fast.tw9476939973037205529 : Nat := 0
def PySem.W.Fast.tw13957598557106608940 : Nat := 0
def PySem.W.Fast.tw1000540579463258098 : Nat := 0
def PySem.W.Fast.tw18191467681178980312 : Nat := 0
def PySem.W.Fast.tw9915514564606566540 : Nat := 0
def PySem.W.Fast.tw10666108027018163587 : Nat := 0
def PySem.W.Fast.tw17416924937135901111 : Nat := 0
def PySem.W.Fast.tw205346813927838636 : Nat := 0
def PySem.W.Fast.tw10634817466469059935 : Nat := 0
def PySem.W.Fast.tw14864749228847520619 : Nat := 0
def PySem.W.Fast.tw18270654182568983227 : Nat := 0
def PySem.W.Fast.tw6070251268742795532 : Nat := 0
def PySem.W.Fast.tw11704871306154804751 : Nat := 0
def PySem.W.Fast.tw2893695503410149662 : Nat := 0
def PySem.W.Fast.tw3571948843274106491 : Nat := 0
def PySem.W.Fast.tw2849464425631714325 : Nat := 0
def PySem.W.Fast.tw5571391154693701869 : Nat := 0
def PySem.W.Fast.tw8583218240431062337 : Nat := 0
def PySem.W.Fast.tw7186692723041536267 : Nat := 0
def PySem.W.Fast.tw9408809821748792581 : Nat := 0
def PySem.W.Fast.tw3996784351582667262 : Nat := 0
def PySem.W.Fast.tw11024059292605526341 : Nat := 0
def PySem.W.Fast.tw16606374692242469230 : Nat := 0
def PySem.W.Fast.tw13796251173792120364 : Nat := 0
def PySem.W.Fast.tw3570656431044151830 : Nat := 0
def PySem.W.Fast.tw13696972722157453426 : Nat := 0
def PySem.W.Fast.tw13498391977660680357 : Nat := 0
def PySem.W.Fast.tw4192164041681710417 : Nat := 0
def PySem.W.Fast.tw9289198215670308472 : Nat := 0
def PySem.W.Fast.tw6463122111175710482 : Nat := 0
def PySem.W.Fast.tw5273751631685626429 : Nat := 0
def PySem.W.Fast.tw12925929713580054898 : Nat := 0
def PySem.W.Fast.tw6450056142995196942 : Nat := 0
def PySem.W.Fast.tw218480155888817976 : Nat := 0
def PySem.W.Fast.tw18411333945759131085 : Nat := 0
def PySem.W.Fast.tw14652956823767071745 : Nat := 0
def PySem.W.Fast.tw13085460463353936327 : Nat := 0
def PySem.W.Fast.tw17342318307736828800 : Nat := 0
def PySem.W.Fast.tw11622759465401221098 : Nat := 0
def PySem.W.Fast.tw5305669490597694245 : Nat := 0
def PySem.W.Fast.tw6806466678356230636 : Nat := 0
def PySem.W.Fast.tw17739113049603575606 : Nat := 0
def PySem.W.Fast.tw8994104514016537994 : Nat := 0
def PySem.W.Fast.tw1448233760329133875 : Nat := 0
def PySem.W.Fast.tw2405704148587174923 : Nat := 0
def PySem.W.Fast.tw16467975813862379421 : Nat := 0
def PySem.W.Fast.tw11943981976612886747 : Nat := 0
def PySem.W.Fast.tw967823140154257862 : Nat := 0
def PySem.W.Fast.tw15000378830624552369 : Nat := 0
def PySem.W.Fast.tw3970686533858013944 : Nat := 0
def PySem.W.Fast.tw12772356714113397103 : Nat := 0
def PySem.W.Fast.tw13940297034915529703 : Nat := 0
def PySem.W.Fast.tw13362875885210401961 : Nat := 0
def PySem.W.Fast.tw5030200370111597301 : Nat := 0
def PySem.W.Fast.tw14996968009775409572 : Nat := 0
def PySem.W.Fast.tw9078784961566246796 : Nat := 0
def PySem.W.Fast.tw12014282592915723404 : Nat := 0
def PySem.W.Fast.tw14614142728636408870 : Nat := 0
def PySem.W.Fast.tw6657412085977946666 : Nat := 0
def PySem.W.Fast.tw319479606084407786 : Nat := 0
def PySem.W.Fast.tw17729774619302669804 : Nat := 0
def PySem.W.Fast.tw4226892480052076096 : Nat := 0
def PySem.W.Fast.tw14111647011151381274 : Nat := 0
def PySem.W.Fast.tw5250308933890878817 : Nat := 0
def PySem.W.Fast.tw14177145569401621655 : Nat := 0
def PySem.W.Fast.tw6552273205435889013 : Nat := 0
def PySem.W.Fast.tw17435042881115351021 : Nat := 0
def PySem.W.Fast.tw13131249625723417677 : Nat := 0
def PySem.W.Fast.tw17824758695733272274 : Nat := 0
def PySem.W.Fast.tw14558008706688144797 : Nat := 0
def PySem.W.Fast.tw1005021063107118738 : Nat := 0
def PySem.W.Fast.tw14277972551806504918 : Nat := 0
def PySem.W.Fast.tw4504906553192154845 : Nat := 0
def PySem.W.Fast.tw3357469704991851763 : Nat := 0
def PySem.W.Fast.tw15456729557920389428 : Nat := 0
def PySem.W.Fast.tw12491635003562556543 : Nat := 0
def PySem.W.Fast.tw12089647155739382929 : Nat := 0
def PySem.W.Fast.tw14670152071676849144 : Nat := 0
def PySem.W.Fast.tw5900510688125904910 : Nat := 0
def PySem.W.Fast.tw6465284106293748397 : Nat := 0
def PySem.W.Fast.tw16932248970380347639 : Nat := 0
def PySem.W.Fast.tw15478114044717895160 : Nat := 0
def PySem.W.Fast.tw12756921588600573678 : Nat := 0
def PySem.W.Fast.tw13606214307980812256 : Nat := 0
def PySem.W.Fast.tw3254583544612556769 : Nat := 0
def PySem.W.Fast.tw6969907536705529505 : Nat := 0
def PySem.W.Fast.tw8188384840108580412 : Nat := 0
def PySem.W.Fast.tw8293229240931620725 : Nat := 0
def PySem.W.Fast.tw5653515822937137822 : Nat := 0
def PySem.W.Fast.tw17755443789295117159 : Nat := 0
def PySem.W.Fast.tw4288412414860457234 : Nat := 0
def PySem.W.Fast.tw6222442595991259685 : Nat := 0
def PySem.W.Fast.tw12815517729302212413 : Nat := 0
def PySem.W.Fast.tw9876687910469796472 : Nat := 0
def PySem.W.Fast.tw10559067619223701630 : Nat := 0
def PySem.W.Fast.tw7250605440671143357 : Nat := 0
def PySem.W.Fast.tw740050098719252733 : Nat := 0
def PySem.W.Fast.tw15307182268359931218 : Nat := 0
def PySem.W.Fast.tw11091111473309406575 : Nat := 0
def PySem.W.Fast.tw2326220033899924870 : Nat := 0
def PySem.W.Fast.tw9177657087427255310 : Nat := 0
def PySem.W.Fast.tw17312700352375878884 : Nat := 0
def PySem.W.Fast.tw15003737132094619356 : Nat := 0
def PySem.W.Fast.tw6230397743199655653 : Nat := 0
def PySem.W.Fast.tw11486241166052155820 : Nat := 0
def PySem.W.Fast.tw15052081350746877631 : Nat := 0
def PySem.W.Fast.tw6331768486241132925 : Nat := 0
def PySem.W.Fast.tw3757070855470605672 : Nat := 0
def PySem.W.Fast.tw15328826968388495402 : Nat := 0
def PySem.W.Fast.tw3324288075272004781 : Nat := 0
def PySem.W.Fast.tw10208635259480348249 : Nat := 0
def PySem.W.Fast.tw16274780315720650719 : Nat := 0
def PySem.W.Fast.tw1573073476032237410 : Nat := 0
def PySem.W.Fast.tw10379072029583475836 : Nat := 0
def PySem.W.Fast.tw9691052697964785623 : Nat := 0
def PySem.W.Fast.tw15095008029866852724 : Nat := 0
def PySem.W.Fast.tw970160911059613322 : Nat := 0
def PySem.W.Fast.tw230801469123006645 : Nat := 0
def PySem.W.Fast.tw74302689581394421 : Nat := 0
def PySem.W.Fast.tw4056833550382069316 : Nat := 0
def PySem.W.Fast.tw7091649869278842957 : Nat := 0
def PySem.W.Fast.tw5384395957321620987 : Nat := 0
def PySem.W.Fast.tw9714744429222222808 : Nat := 0
def PySem.W.Fast.tw2200264023095563934 : Nat := 0
def PySem.W.Fast.tw10234300951143168027 : Nat := 0
def PySem.W.Fast.tw11233820511385470037 : Nat := 0
def PySem.W.Fast.tw620431663665576544 : Nat := 0
def PySem.W.Fast.tw5764079576762234998 : Nat := 0
def PySem.W.Fast.tw15599158340678882346 : Nat := 0
def PySem.W.Fast.tw4391933906965184441 : Nat := 0
def PySem.W.Fast.tw14699059162810837897 : Nat := 0
def PySem.W.Fast.tw10380866979583909340 : Nat := 0
def PySem.W.Fast.tw16420909107953466056 : Nat := 0
def PySem.W.Fast.tw8532926480920212576 : Nat := 0
def PySem.W.Fast.tw11570835473060101730 : Nat := 0
def PySem.W.Fast.tw3964880239739106935 : Nat := 0
def PySem.W.Fast.tw12848648406259223378 : Nat := 0
def PySem.W.Fast.tw5266257763478995529 : Nat := 0
def PySem.W.Fast.tw6475126622461697712 : Nat := 0
def PySem.W.Fast.tw5846982341909209563 : Nat := 0
def PySem.W.Fast.tw8148560643328309677 : Nat := 0
def PySem.W.Fast.tw6427519951972233848 : Nat := 0
def PySem.W.Fast.tw10100372515447988442 : Nat := 0
def PySem.W.Fast.tw15098365917968460050 : Nat := 0
def PySem.W.Fast.tw2661290968857438352 : Nat := 0
def PySem.W.Fast.tw9713033850400318045 : Nat := 0
def PySem.W.Fast.tw14213483329597881569 : Nat := 0
def PySem.W.Fast.tw3252323862295586195 : Nat := 0
def PySem.W.Fast.tw8222928485602580931 : Nat := 0
def PySem.W.Fast.tw1276938873797392990 : Nat := 0
def PySem.W.Fast.tw3803062508895425300 : Nat := 0
def PySem.W.Fast.tw6062699124743277858 : Nat := 0
def PySem.W.Fast.tw15013782711733283224 : Nat := 0
def PySem.W.Fast.tw9633592843085601153 : Nat := 0
def PySem.W.Fast.tw10096127743945074004 : Nat := 0
def PySem.W.Fast.tw16197143236099527372 : Nat := 0
def PySem.W.Fast.tw5969824856012305275 : Nat := 0
def PySem.W.Fast.tw16904150942724770679 : Nat := 0
def PySem.W.Fast.tw9158585135644433670 : Nat := 0
def PySem.W.Fast.tw14690624910113106435 : Nat := 0
def PySem.W.Fast.tw17156032968008069524 : Nat := 0
def PySem.W.Fast.tw913596201450698954 : Nat := 0
def PySem.W.Fast.tw8258053400447377100 : Nat := 0
def PySem.W.Fast.tw1576738776681209876 : Nat := 0
def PySem.W.Fast.tw10328825255072165249 : Nat := 0
def PySem.W.Fast.tw16259984140195557189 : Nat := 0
def PySem.W.Fast.tw5593267189442259641 : Nat := 0
def PySem.W.Fast.tw1407570816197614348 : Nat := 0
def PySem.W.Fast.tw11758992364601711252 : Nat := 0
def PySem.W.Fast.tw4283968613291499652 : Nat := 0
def PySem.W.Fast.tw3466755161037442684 : Nat := 0
def PySem.W.Fast.tw2754796402462296435 : Nat := 0
def PySem.W.Fast.tw7370631811261819103 : Nat := 0
def PySem.W.Fast.tw12475962909333733068 : Nat := 0
def PySem.W.Fast.tw14688276418258393497 : Nat := 0
def PySem.W.Fast.tw125525221818360270 : Nat := 0
def PySem.W.Fast.tw12866226460874258337 : Nat := 0
def PySem.W.Fast.tw384872165111487337 : Nat := 0
def PySem.W.Fast.tw350361709102383491 : Nat := 0
def PySem.W.Fast.tw3485427294924019811 : Nat := 0
def PySem.W.Fast.tw6913640262680703843 : Nat := 0
def PySem.W.Fast.tw18200185880107951634 : Nat := 0
def PySem.W.Fast.tw517452089218702476 : Nat := 0
def PySem.W.Fast.tw13904324028956856040 : Nat := 0
def PySem.W.Fast.tw1568490558630468432 : Nat := 0
def PySem.W.Fast.tw11212795891878646028 : Nat := 0
def PySem.W.Fast.tw411837774415671792 : Nat := 0
def PySem.W.Fast.tw12468147795692521310 : Nat := 0
def PySem.W.Fast.tw5160401288590256385 : Nat := 0
def PySem.W.Fast.tw3966949502922782623 : Nat := 0
def PySem.W.Fast.tw14104283778378734367 : Nat := 0
def PySem.W.Fast.tw12791932512824744723 : Nat := 0
def PySem.W.Fast.tw8685661513825954397 : Nat := 0
def PySem.W.Fast.tw1147268272457091709 : Nat := 0
def PySem.W.Fast.tw7662088026116282115 : Nat := 0
def PySem.W.Fast.tw7754873336420243106 : Nat := 0
def PySem.W.Fast.tw6793484930467569532 : Nat := 0
def PySem.W.Fast.tw9617453734753826819 : Nat := 0
def PySem.W.Fast.tw16511692516211373191 : Nat := 0
def PySem.W.Fast.tw17831554134800036123 : Nat := 0
def PySem.W.Fast.tw9944164998009364695 : Nat := 0
def PySem.W.Fast.tw14400984924142022136 : Nat := 0
def PySem.W.Fast.tw16352986135226178753 : Nat := 0
def PySem.W.Fast.tw7347181023706080131 : Nat := 0
def PySem.W.Fast.tw3434727254507187580 : Nat := 0
def PySem.W.Fast.tw16422875292924995781 : Nat := 0
def PySem.W.Fast.tw2194079645392017584 : Nat := 0
def PySem.W.Fast.tw9355505520938985386 : Nat := 0
def PySem.W.Fast.tw13518651073183496873 : Nat := 0
def PySem.W.Fast.tw10818526424133156476 : Nat := 0
def PySem.W.Fast.tw5763431084544596183 : Nat := 0
def PySem.W.Fast.tw3167315716059728706 : Nat := 0
def PySem.W.Fast.tw7890992486739839983 : Nat := 0
def PySem.W.Fast.tw1304941697658150362 : Nat := 0
def PySem.W.Fast.tw5938577390675650806 : Nat := 0
def PySem.W.Fast.tw5895617245816329297 : Nat := 0
def PySem.W.Fast.tw13172386871066551505 : Nat := 0
def PySem.W.Fast.tw12139427994929581809 : Nat := 0
def PySem.W.Fast.tw457926431125129577 : Nat := 0
def PySem.W.Fast.tw12937317291968763529 : Nat := 0
def PySem.W.Fast.tw2405665026678935004 : Nat := 0
def PySem.W.Fast.tw6680224349908307829 : Nat := 0
def PySem.W.Fast.tw1280543922577000630 : Nat := 0
def PySem.W.Fast.tw17345332144500667916 : Nat := 0
def PySem.W.Fast.tw15793659363637860356 : Nat := 0
def PySem.W.Fast.tw17125620284056266695 : Nat := 0
def PySem.W.Fast.tw17418393951221641328 : Nat := 0
def PySem.W.Fast.tw1949234236204988122 : Nat := 0
def PySem.W.Fast.tw14022721195095153659 : Nat := 0
def PySem.W.Fast.tw4861067618186040177 : Nat := 0
def PySem.W.Fast.tw16468837793436429403 : Nat := 0
def PySem.W.Fast.tw3332006474064557612 : Nat := 0
def PySem.W.Fast.tw18443716194173486234 : Nat := 0
def PySem.W.Fast.tw14015036573436345447 : Nat := 0
def PySem.W.Fast.tw4567754163257974549 : Nat := 0
def PySem.W.Fast.tw8921380986107135076 : Nat := 0
def PySem.W.Fast.tw9786226849189644174 : Nat := 0
def PySem.W.Fast.tw2216964060282961665 : Nat := 0
def PySem.W.Fast.tw9526889856786860125 : Nat := 0
def PySem.W.Fast.tw15006664989348828033 : Nat := 0
def PySem.W.Fast.tw14264423397118986321 : Nat := 0
def PySem.W.Fast.tw10722821824844673651 : Nat := 0
def PySem.W.Fast.tw11186879661713042335 : Nat := 0
def PySem.W.Fast.tw1582196643730659301 : Nat := 0
def PySem.W.Fast.tw45548038706671091 : Nat := 0
def PySem.W.Fast.tw13435672718190164881 : Nat := 0
def PySem.W.Fast.tw2905775927925710276 : Nat := 0
def PySem.W.Fast.tw8391654300446638977 : Nat := 0
def PySem.W.Fast.tw9722298187449198981 : Nat := 0
def PySem.W.Fast.tw17539232750678101782 : Nat := 0
def PySem.W.Fast.tw6917809723516369351 : Nat := 0
def PySem.W.Fast.tw713556176447053020 : Nat := 0
def PySem.W.Fast.tw12148287752423500321 : Nat := 0
def PySem.W.Fast.tw2797736486506861332 : Nat := 0
def PySem.W.Fast.tw16796446968188386781 : Nat := 0
def PySem.W.Fast.tw17660804449184651693 : Nat := 0
def PySem.W.Fast.tw7579857829460082879 : Nat := 0
def PySem.W.Fast.tw14779592815455648103 : Nat := 0
def PySem.W.Fast.tw4686436638687373504 : Nat := 0
def PySem.W.Fast.tw5276100847307365025 : Nat := 0
def PySem.W.Fast.tw9960408396880651181 : Nat := 0
def PySem.W.Fast.tw15917935542101189498 : Nat := 0
def PySem.W.Fast.tw15345055457941612258 : Nat := 0
def PySem.W.Fast.tw17679596724522214296 : Nat := 0
def PySem.W.Fast.tw541087476687587924 : Nat := 0
def PySem.W.Fast.tw15275269000920887833 : Nat := 0
def PySem.W.Fast.tw11813904570987028004 : Nat := 0
def PySem.W.Fast.tw13823477555887559527 : Nat := 0
def PySem.W.Fast.tw595835247740748395 : Nat := 0
def PySem.W.Fast.tw13843982717357293619 : Nat := 0
def PySem.W.Fast.tw11176452763835011914 : Nat := 0
def PySem.W.Fast.tw2552645296488975805 : Nat := 0
def PySem.W.Fast.tw6231887845986598587 : Nat := 0
def PySem.W.Fast.tw818903561182547872 : Nat := 0
def PySem.W.Fast.tw14760260563127875898 : Nat := 0
def PySem.W.Fast.tw14195988128038055667 : Nat := 0
def PySem.W.Fast.tw5470902018411289826 : Nat := 0
def PySem.W.Fast.tw12680387498478747024 : Nat := 0
def PySem.W.Fast.tw17767147982731375602 : Nat := 0
def PySem.W.Fast.tw12450900602880580164 : Nat := 0
def PySem.W.Fast.tw11643185750196222921 : Nat := 0
def PySem.W.Fast.tw9212726014290533048 : Nat := 0
def PySem.W.Fast.tw12180979284041359220 : Nat := 0
def PySem.W.Fast.tw13262653620872652542 : Nat := 0
def PySem.W.Fast.tw13516688204378909517 : Nat := 0
def PySem.W.Fast.tw8247274445672811842 : Nat := 0
def PySem.W.Fast.tw14622094805837317699 : Nat := 0
def PySem.W.Fast.tw5792959027769590242 : Nat := 0
def PySem.W.Fast.tw1442848099748374742 : Nat := 0
def PySem.W.Fast.tw5866317106311999032 : Nat := 0
def PySem.W.Fast.tw3889372968837646527 : Nat := 0
def PySem.W.Fast.tw4956648883414505915 : Nat := 0
def PySem.W.Fast.tw16699314849497443806 : Nat := 0
def PySem.W.Fast.tw10076911778185661160 : Nat := 0
def PySem.W.Fast.tw13084117494917138500 : Nat := 0
def PySem.W.Fast.tw12950222472596043268 : Nat := 0
def PySem.W.Fast.tw17741084346100077191 : Nat := 0
def PySem.W.Fast.tw9502865118910450413 : Nat := 0
def PySem.W.Fast.tw5232657352146634713 : Nat := 0
def PySem.W.Fast.tw13245171050811155199 : Nat := 0
def PySem.W.Fast.tw10546910870863554593 : Nat := 0
def PySem.W.Fast.tw10635696895466750591 : Nat := 0
def PySem.W.Fast.tw14851915138906798187 : Nat := 0
def PySem.W.Fast.tw4776325298637757172 : Nat := 0
def PySem.W.Fast.tw16570572057188114773 : Nat := 0
def PySem.W.Fast.tw18092249723926027304 : Nat := 0
def PySem.W.Fast.tw2845248278452527741 : Nat := 0
def PySem.W.Fast.tw4336096829053708155 : Nat := 0
def PySem.W.Fast.tw17256200591321109406 : Nat := 0
def PySem.W.Fast.tw2532050034404974266 : Nat := 0
def PySem.W.Fast.tw13235626210593220647 : Nat := 0
def PySem.W.Fast.tw6388087846255651061 : Nat := 0
def PySem.W.Fast.tw14220276992557560496 : Nat := 0
def PySem.W.Fast.tw6395158947180082518 : Nat := 0
def PySem.W.Fast.tw3114513579732691220 : Nat := 0
def PySem.W.Fast.tw17787927078041965312 : Nat := 0
def PySem.W.Fast.tw2657622589464644707 : Nat := 0
def PySem.W.Fast.tw11066349475094646681 : Nat := 0
def PySem.W.Fast.tw16281888194648994335 : Nat := 0
def PySem.W.Fast.tw8869510703214526179 : Nat := 0
def PySem.W.Fast.tw12031365022647977656 : Nat := 0
def PySem.W.Fast.tw10135906031181692570 : Nat := 0
def PySem.W.Fast.tw18435996027181675071 : Nat := 0
def PySem.W.Fast.tw18157186294794131830 : Nat := 0
def PySem.W.Fast.tw16644152846281676977 : Nat := 0
def PySem.W.Fast.tw15898645454700125726 : Nat := 0
def PySem.W.Fast.tw8475151565777316514 : Nat := 0
def PySem.W.Fast.tw5861700978558399567 : Nat := 0
def PySem.W.Fast.tw17131120838466439475 : Nat := 0
def PySem.W.Fast.tw8824223066629176939 : Nat := 0
def PySem.W.Fast.tw12380075955969656601 : Nat := 0
def PySem.W.Fast.tw13056830627816893488 : Nat := 0
def PySem.W.Fast.tw3957373981439394798 : Nat := 0
def PySem.W.Fast.tw703859140420250940 : Nat := 0
def PySem.W.Fast.tw8957260278751001534 : Nat := 0
def PySem.W.Fast.tw646535900869175431 : Nat := 0
def PySem.W.Fast.tw4823323307538433177 : Nat := 0
def PySem.W.Fast.tw11784468347772915009 : Nat := 0
def PySem.W.Fast.tw15876423841473429901 : Nat := 0
def PySem.W.Fast.tw10152566615624231483 : Nat := 0
def PySem.W.Fast.tw8150059960488107683 : Nat := 0
def PySem.W.Fast.tw4279793169881384747 : Nat := 0
def PySem.W.Fast.tw564896146036299770 : Nat := 0
def PySem.W.Fast.tw14383189523647408726 : Nat := 0
def PySem.W.Fast.tw3609670356514637643 : Nat := 0
def PySem.W.Fast.tw18444220720493629130 : Nat := 0
def PySem.W.Fast.tw5223895317269062476 : Nat := 0
def PySem.W.Fast.tw5053811320949656042 : Nat := 0
def PySem.W.Fast.tw17551380343396061320 : Nat := 0
def PySem.W.Fast.tw1302993645821609296 : Nat := 0
def PySem.W.Fast.tw4935471293876071556 : Nat := 0
def PySem.W.Fast.tw14533272552751781159 : Nat := 0
def PySem.W.Fast.tw15104788039664239687 : Nat := 0
def PySem.W.Fast.tw17584808233705790208 : Nat := 0
def PySem.W.Fast.tw9301912571946532112 : Nat := 0
def PySem.W.Fast.tw1401594313254395278 : Nat := 0
def PySem.W.Fast.tw15052319975019831046 : Nat := 0
def PySem.W.Fast.tw7353289716043402267 : Nat := 0
def PySem.W.Fast.tw696442195225073421 : Nat := 0
def PySem.W.Fast.tw16999592679478756434 : Nat := 0
def PySem.W.Fast.tw5348819757351427133 : Nat := 0
def PySem.W.Fast.tw6534962062472430166 : Nat := 0
def PySem.W.Fast.tw6415513821261153154 : Nat := 0
def PySem.W.Fast.tw3664792036417690711 : Nat := 0
def PySem.W.Fast.tw12824100437727775107 : Nat := 0
def PySem.W.Fast.tw15396340948088003551 : Nat := 0
def PySem.W.Fast.tw17207928950726867617 : Nat := 0
def PySem.W.Fast.tw8241045271254206254 : Nat := 0
def PySem.W.Fast.tw9968760604133383985 : Nat := 0
def PySem.W.Fast.tw17956393678580526276 : Nat := 0
def PySem.W.Fast.tw17712723241766645000 : Nat := 0
def PySem.W.Fast.tw15928831862322835219 : Nat := 0
def PySem.W.Fast.tw11145026460433940347 : Nat := 0
def PySem.W.Fast.tw4806393664001023297 : Nat := 0
def PySem.W.Fast.tw14388633112109782441 : Nat := 0
def PySem.W.Fast.tw7075915134347255988 : Nat := 0
def PySem.W.Fast.tw10011388952493638025 : Nat := 0
def PySem.W.Fast.tw10731535253010873425 : Nat := 0
def PySem.W.Fast.tw12127024327789739408 : Nat := 0
def PySem.W.Fast.tw2587826101133479527 : Nat := 0
def PySem.W.Fast.tw3690962209235192707 : Nat := 0
def PySem.W.Fast.tw1519129271969642925 : Nat := 0
def PySem.W.Fast.tw350698450066364161 : Nat := 0
def PySem.W.Fast.tw6622232325827287266 : Nat := 0
def PySem.W.Fast.tw4395280909320808312 : Nat := 0
def PySem.W.Fast.tw13604485122023148199 : Nat := 0
def PySem.W.Fast.tw1679058026375920108 : Nat := 0
def PySem.W.Fast.tw2137311897286917017 : Nat := 0
def PySem.W.Fast.tw10023980326817358526 : Nat := 0
def PySem.W.Fast.tw4957107416338201682 : Nat := 0
def PySem.W.Fast.tw13246726430084745087 : Nat := 0
def PySem.W.Fast.tw202420871895984106 : Nat := 0
def PySem.W.Fast.tw7027867116471532738 : Nat := 0
def PySem.W.Fast.tw10523568375707687072 : Nat := 0
def PySem.W.Fast.tw8716528196766249153 : Nat := 0
def PySem.W.Fast.tw9899259584555703443 : Nat := 0
def PySem.W.Fast.tw8998399366117777082 : Nat := 0
def PySem.W.Fast.tw17581392274139454438 : Nat := 0
def PySem.W.Fast.tw11933080593388932928 : Nat := 0
def PySem.W.Fast.tw14463956160994336165 : Nat := 0
def PySem.W.Fast.tw11214035011077187308 : Nat := 0
def PySem.W.Fast.tw10940353828069526257 : Nat := 0
def PySem.W.Fast.tw15402046692360645617 : Nat := 0
def PySem.W.Fast.tw3387588607002006376 : Nat := 0
def PySem.W.Fast.tw9021736829738272283 : Nat := 0
def PySem.W.Fast.tw2011813890297333327 : Nat := 0
def PySem.W.Fast.tw5937477471724855035 : Nat := 0
def PySem.W.Fast.tw5207171022443223119 : Nat := 0
def PySem.W.Fast.tw1928333068325863011 : Nat := 0
def PySem.W.Fast.tw2421994348456938243 : Nat := 0
def PySem.W.Fast.tw14743598122127648862 : Nat := 0
def PySem.W.Fast.tw656504244477397862 : Nat := 0
def PySem.W.Fast.tw5009940225409108628 : Nat := 0
def PySem.W.Fast.tw17231168217358461439 : Nat := 0
def PySem.W.Fast.tw17927325965657096011 : Nat := 0
def PySem.W.Fast.tw8619013975726674893 : Nat := 0
def PySem.W.Fast.tw496416993735130310 : Nat := 0
def PySem.W.Fast.tw6652104288835508419 : Nat := 0
def PySem.W.Fast.tw12974554695742800487 : Nat := 0
def PySem.W.Fast.tw17465153887273976080 : Nat := 0
def PySem.W.Fast.tw16752736433103265158 : Nat := 0
def PySem.W.Fast.tw1509120013029146656 : Nat := 0
def PySem.W.Fast.tw11481639449978974293 : Nat := 0
def PySem.W.Fast.tw5493509609340117352 : Nat := 0
def PySem.W.Fast.tw8193386525259133736 : Nat := 0
def PySem.W.Fast.tw6597609801107804448 : Nat := 0
def PySem.W.Fast.tw14307914503294188834 : Nat := 0
def PySem.W.Fast.tw2689155618399783175 : Nat := 0
def PySem.W.Fast.tw17545771742425421475 : Nat := 0
def PySem.W.Fast.tw15300374595293119000 : Nat := 0
def PySem.W.Fast.tw5244511458853747250 : Nat := 0
def PySem.W.Fast.tw10760375371531062065 : Nat := 0
def PySem.W.Fast.tw3403120229178533888 : Nat := 0
def PySem.W.Fast.tw6681878312520904572 : Nat := 0
def PySem.W.Fast.tw57511933404483025 : Nat := 0
def PySem.W.Fast.tw1191145673636830122 : Nat := 0
def PySem.W.Fast.tw5005565296080436553 : Nat := 0
def PySem.W.Fast.tw11926605657525545996 : Nat := 0
def PySem.W.Fast.tw8401179316059138611 : Nat := 0
def PySem.W.Fast.tw4559247665000743716 : Nat := 0
def PySem.W.Fast.tw16213987333793535927 : Nat := 0
def PySem.W.Fast.tw9253094128238886442 : Nat := 0
def PySem.W.Fast.tw15540469502274123712 : Nat := 0
def PySem.W.Fast.tw4773172770761866655 : Nat := 0
def PySem.W.Fast.tw4707273346691662016 : Nat := 0
def PySem.W.Fast.tw15737779538282085904 : Nat := 0
def PySem.W.Fast.tw13205434011058643772 : Nat := 0
def PySem.W.Fast.tw11335136920424598469 : Nat := 0
def PySem.W.Fast.tw16583674859865564273 : Nat := 0
def PySem.W.Fast.tw4062851750130244253 : Nat := 0
def PySem.W.Fast.tw6270996155181883271 : Nat := 0
def PySem.W.Fast.tw4745712886375447981 : Nat := 0
def PySem.W.Fast.tw13199260344807621468 : Nat := 0
def PySem.W.Fast.tw10456810177031869349 : Nat := 0
def PySem.W.Fast.tw4172722181600995414 : Nat := 0
def PySem.W.Fast.tw17048756448015060329 : Nat := 0
def PySem.W.Fast.tw12538534807140455155 : Nat := 0
def PySem.W.Fast.tw1905503997281786035 : Nat := 0
def PySem.W.Fast.tw6109315059150056209 : Nat := 0
def PySem.W.Fast.tw10933904438151502521 : Nat := 0
def PySem.W.Fast.tw10324481453286894527 : Nat := 0
def PySem.W.Fast.tw11044130600614641427 : Nat := 0
def PySem.W.Fast.tw9543878414988336494 : Nat := 0
def PySem.W.Fast.tw9150835598163890797 : Nat := 0
def PySem.W.Fast.tw14056499483931200084 : Nat := 0
def PySem.W.Fast.tw4662722597193670676 : Nat := 0
def PySem.W.Fast.tw2059883453097970245 : Nat := 0
def PySem.W.Fast.tw13632424676798926434 : Nat := 0
def PySem.W.Fast.tw13812149342735524661 : Nat := 0
def PySem.W.Fast.tw9488355613050211723 : Nat := 0
def PySem.W.Fast.tw16994752548752455406 : Nat := 0
def PySem.W.Fast.tw6069510674957467030 : Nat := 0
def PySem.W.Fast.tw15738639187829894331 : Nat := 0
def PySem.W.Fast.tw10427423229824354682 : Nat := 0
def PySem.W.Fast.tw9828186786392290934 : Nat := 0
def PySem.W.Fast.tw7811219690672125639 : Nat := 0
def PySem.W.Fast.tw7741305894762175180 : Nat := 0
def PySem.W.Fast.tw11050849212251047772 : Nat := 0
def PySem.W.Fast.tw4365479178796791820 : Nat := 0
def PySem.W.Fast.tw4345085731748472771 : Nat := 0
def PySem.W.Fast.tw15737789056388944024 : Nat := 0
def PySem.W.Fast.tw12575642624613669657 : Nat := 0
def PySem.W.Fast.tw6007923560950540477 : Nat := 0
def PySem.W.Fast.tw18339600403405473918 : Nat := 0
def PySem.W.Fast.tw7190732670171060468 : Nat := 0
def PySem.W.Fast.tw14388139015764461238 : Nat := 0
def PySem.W.Fast.tw18428811311253743543 : Nat := 0
def PySem.W.Fast.tw3991111974465501093 : Nat := 0
def PySem.W.Fast.tw13232967313493888643 : Nat := 0
def PySem.W.Fast.tw10489860078802833696 : Nat := 0
def PySem.W.Fast.tw12091809566897528022 : Nat := 0
def PySem.W.Fast.tw6136881735818667377 : Nat := 0
def PySem.W.Fast.tw12779308451423529356 : Nat := 0
def PySem.W.Fast.tw17270422090960701758 : Nat := 0
def PySem.W.Fast.tw13161403489439054876 : Nat := 0
def PySem.W.Fast.tw7315597184482162894 : Nat := 0
def PySem.W.Fast.tw7136675191860696571 : Nat := 0
def PySem.W.Fast.tw18337084549881946433 : Nat := 0
def PySem.W.Fast.tw1859890517598800907 : Nat := 0
def PySem.W.Fast.tw3427167600117603126 : Nat := 0
def PySem.W.Fast.tw12101413708963314774 : Nat := 0
def PySem.W.Fast.tw4556762452180326614 : Nat := 0
def PySem.W.Fast.tw883467612975347795 : Nat := 0
def PySem.W.Fast.tw6422263758275898660 : Nat := 0
def PySem.W.Fast.tw6866244314770481895 : Nat := 0
def PySem.W.Fast.tw2313182798277385311 : Nat := 0
def PySem.W.Fast.tw17905813875772882765 : Nat := 0
def PySem.W.Fast.tw3897041899613606807 : Nat := 0
def PySem.W.Fast.tw4062242198683400945 : Nat := 0
def PySem.W.Fast.tw1368849566942488370 : Nat := 0
def PySem.W.Fast.tw18427370638982758582 : Nat := 0
def PySem.W.Fast.tw305264176327027882 : Nat := 0
def PySem.W.Fast.tw849022459885777327 : Nat := 0
def PySem.W.Fast.tw11228225310553426532 : Nat := 0
def PySem.W.Fast.tw12701561378538819490 : Nat := 0
def PySem.W.Fast.tw162656378201411859 : Nat := 0
def PySem.W.Fast.tw12419466453597880770 : Nat := 0
def PySem.W.Fast.tw12616657478173406989 : Nat := 0
def PySem.W.Fast.tw2072307151580947419 : Nat := 0
def PySem.W.Fast.tw3085456169039925934 : Nat := 0
def PySem.W.Fast.tw7256332373828709469 : Nat := 0
def PySem.W.Fast.tw413532098601462613 : Nat := 0
def PySem.W.Fast.tw11646231140725637151 : Nat := 0
def PySem.W.Fast.tw10504768823404113146 : Nat := 0
def PySem.W.Fast.tw1430239446750796830 : Nat := 0
def PySem.W.Fast.tw6530465331864838330 : Nat := 0
def PySem.W.Fast.tw3000974925370150890 : Nat := 0
def PySem.W.Fast.tw17575184317581104639 : Nat := 0
def PySem.W.Fast.tw7008403470502774028 : Nat := 0
def PySem.W.Fast.tw7210311065355922718 : Nat := 0
def PySem.W.Fast.tw12315059545235233522 : Nat := 0
def PySem.W.Fast.tw7953306097837047669 : Nat := 0
def PySem.W.Fast.tw12216755216457180509 : Nat := 0
def PySem.W.Fast.tw15796834288569516258 : Nat := 0
def PySem.W.Fast.tw1591863884546632544 : Nat := 0
def PySem.W.Fast.tw17663633445434474037 : Nat := 0
def PySem.W.Fast.tw3090170468306775715 : Nat := 0
def PySem.W.Fast.tw14858777528530651352 : Nat := 0
def PySem.W.Fast.tw11720508198120860321 : Nat := 0
def PySem.W.Fast.tw15831523155632015017 : Nat := 0
def PySem.W.Fast.tw3056031518905018876 : Nat := 0
def PySem.W.Fast.tw4583062335770589409 : Nat := 0
def PySem.W.Fast.tw18156144560356623226 : Nat := 0
def PySem.W.Fast.tw5424192988814426851 : Nat := 0
def PySem.W.Fast.tw2431747666929868095 : Nat := 0
def PySem.W.Fast.tw13887281524107585744 : Nat := 0
def PySem.W.Fast.tw1244674797724381454 : Nat := 0
def PySem.W.Fast.tw8094410204721241648 : Nat := 0
def PySem.W.Fast.tw10743735775938898482 : Nat := 0
def PySem.W.Fast.tw12168724152304707003 : Nat := 0
def PySem.W.Fast.tw12580872211266597088 : Nat := 0
def PySem.W.Fast.tw7038307254707709371 : Nat := 0
def PySem.W.Fast.tw4288529614776802188 : Nat := 0
def PySem.W.Fast.tw17415947341919523690 : Nat := 0
def PySem.W.Fast.tw3745241163794903687 : Nat := 0
def PySem.W.Fast.tw8796743250885935686 : Nat := 0
def PySem.W.Fast.tw4815220005370493309 : Nat := 0
def PySem.W.Fast.tw17347820864759443984 : Nat := 0
def PySem.W.Fast.tw15038187086895094014 : Nat := 0
def PySem.W.Fast.tw13928494996948394011 : Nat := 0
def PySem.W.Fast.tw7302819216940319781 : Nat := 0
def PySem.W.Fast.tw11559421932087305350 : Nat := 0
def PySem.W.Fast.tw3995264493806104716 : Nat := 0
def PySem.W.Fast.tw13029900909832396897 : Nat := 0
def PySem.W.Fast.tw1732489774253348514 : Nat := 0
def PySem.W.Fast.tw10364674629861587615 : Nat := 0
def PySem.W.Fast.tw18299913577828766822 : Nat := 0
def PySem.W.Fast.tw2537986645178877186 : Nat := 0
def PySem.W.Fast.tw3186010867628183434 : Nat := 0
def PySem.W.Fast.tw7465751903006488739 : Nat := 0
def PySem.W.Fast.tw6224996648101468371 : Nat := 0
def PySem.W.Fast.tw4002206939331873950 : Nat := 0
def PySem.W.Fast.tw18360277648306202742 : Nat := 0
def PySem.W.Fast.tw14739916461468769312 : Nat := 0
def PySem.W.Fast.tw5794805463425705974 : Nat := 0
def PySem.W.Fast.tw7845933570980908441 : Nat := 0
def PySem.W.Fast.tw4084560407104547260 : Nat := 0
def PySem.W.Fast.tw9596097911346205334 : Nat := 0
def PySem.W.Fast.tw10003468865685426256 : Nat := 0
def PySem.W.Fast.tw9155509345425034707 : Nat := 0
def PySem.W.Fast.tw3470842383330845868 : Nat := 0
def PySem.W.Fast.tw1820398877525422353 : Nat := 0
def PySem.W.Fast.tw13608805923700369992 : Nat := 0
def PySem.W.Fast.tw9023106469183688645 : Nat := 0
def PySem.W.Fast.tw14815868349160381036 : Nat := 0
def PySem.W.Fast.tw5388511046072514234 : Nat := 0
def PySem.W.Fast.tw5394839861956496858 : Nat := 0
def PySem.W.Fast.tw15383080502912285628 : Nat := 0
def PySem.W.Fast.tw17674260615492891383 : Nat := 0
def PySem.W.Fast.tw14780779564760557656 : Nat := 0
def PySem.W.Fast.tw11404781000787871254 : Nat := 0
def PySem.W.Fast.tw3027763204389378778 : Nat := 0
def PySem.W.Fast.tw7055412078383743872 : Nat := 0
def PySem.W.Fast.tw15005055490404871976 : Nat := 0
def PySem.W.Fast.tw2729320857694773871 : Nat := 0
def PySem.W.Fast.tw1070468443792624603 : Nat := 0
def PySem.W.Fast.tw11260191550437297985 : Nat := 0
def PySem.W.Fast.tw6750026123157929505 : Nat := 0
def PySem.W.Fast.tw18057287514317093697 : Nat := 0
def PySem.W.Fast.tw4496105685398582442 : Nat := 0
def PySem.W.Fast.tw14815626128887685779 : Nat := 0
def PySem.W.Fast.tw533303301827732482 : Nat := 0
def PySem.W.Fast.tw1266619799552409415 : Nat := 0
def PySem.W.Fast.tw12351476047539538146 : Nat := 0
def PySem.W.Fast.tw11214938671909563194 : Nat := 0
def PySem.W.Fast.tw6232970550842753004 : Nat := 0
def PySem.W.Fast.tw13418246850654576042 : Nat := 0
def PySem.W.Fast.tw9659426421533127672 : Nat := 0
def PySem.W.Fast.tw2368839700473896701 : Nat := 0
def PySem.W.Fast.tw5167136343753599892 : Nat := 0
def PySem.W.Fast.tw18376678713822239652 : Nat := 0
def PySem.W.Fast.tw16808649545489230830 : Nat := 0
def PySem.W.Fast.tw3130226880876816205 : Nat := 0
def PySem.W.Fast.tw14990560917046111682 : Nat := 0
def PySem.W.Fast.tw1855140083967477612 : Nat := 0
def PySem.W.Fast.tw8531115065483552505 : Nat := 0
def PySem.W.Fast.tw841329440544680747 : Nat := 0
def PySem.W.Fast.tw13328308669239881934 : Nat := 0
def PySem.W.Fast.tw13239860458054624704 : Nat := 0
def PySem.W.Fast.tw239626589570170749 : Nat := 0
def PySem.W.Fast.tw5404324493452361613 : Nat := 0
def PySem.W.Fast.tw10602636060747823686 : Nat := 0
def PySem.W.Fast.tw17989789340748558376 : Nat := 0
def PySem.W.Fast.tw16888668674273596876 : Nat := 0
def PySem.W.Fast.tw5924076533350500865 : Nat := 0
def PySem.W.Fast.tw9114543633470146418 : Nat := 0
def PySem.W.Fast.tw17074331557673537635 : Nat := 0
def PySem.W.Fast.tw3777683258980783980 : Nat := 0
def PySem.W.Fast.tw10664165245286578511 : Nat := 0
def PySem.W.Fast.tw1175228453313008586 : Nat := 0
def PySem.W.Fast.tw9994916312635577880 : Nat := 0
def PySem.W.Fast.tw8132452271509244596 : Nat := 0
def PySem.W.Fast.tw4916147541567120813 : Nat := 0
def PySem.W.Fast.tw3197539327843063111 : Nat := 0
def PySem.W.Fast.tw14359588651305743273 : Nat := 0
def PySem.W.Fast.tw8560573645321700188 : Nat := 0
def PySem.W.Fast.tw11591064966144815481 : Nat := 0
def PySem.W.Fast.tw13792423176655115239 : Nat := 0
def PySem.W.Fast.tw10169427739908438867 : Nat := 0
def PySem.W.Fast.tw3677254844230293841 : Nat := 0
def PySem.W.Fast.tw841994140786155371 : Nat := 0
def PySem.W.Fast.tw8741751533430460059 : Nat := 0
def PySem.W.Fast.tw2019259048626359657 : Nat := 0
def PySem.W.Fast.tw16988062590944865854 : Nat := 0
def PySem.W.Fast.tw16728880701488387724 : Nat := 0
def PySem.W.Fast.tw10246291555997698815 : Nat := 0
def PySem.W.Fast.tw7129413061459945274 : Nat := 0
def PySem.W.Fast.tw10536112829317942915 : Nat := 0
def PySem.W.Fast.tw9696261957548574823 : Nat := 0
def PySem.W.Fast.tw14624309261811322267 : Nat := 0
def PySem.W.Fast.tw6674091309170960574 : Nat := 0
def PySem.W.Fast.tw1773657971413226258 : Nat := 0
def PySem.W.Fast.tw2143002976889307854 : Nat := 0
def PySem.W.Fast.tw7747367142294115996 : Nat := 0
def PySem.W.Fast.tw10428537472517892438 : Nat := 0
def PySem.W.Fast.tw18412698640908677461 : Nat := 0
def PySem.W.Fast.tw1578048482194695332 : Nat := 0
def PySem.W.Fast.tw17052751295981570635 : Nat := 0
def PySem.W.Fast.tw15662392438987397713 : Nat := 0
def PySem.W.Fast.tw14540763243942189258 : Nat := 0
def PySem.W.Fast.tw4112852715193080430 : Nat := 0
def PySem.W.Fast.tw1297824195052650134 : Nat := 0
def PySem.W.Fast.tw217699251703280502 : Nat := 0
def PySem.W.Fast.tw18226408675572609694 : Nat := 0
def PySem.W.Fast.tw86250814361907244 : Nat := 0
def PySem.W.Fast.tw7579669831776770721 : Nat := 0
def PySem.W.Fast.tw12544047106542093779 : Nat := 0
def PySem.W.Fast.tw18168083692323749018 : Nat := 0
def PySem.W.Fast.tw6738709818974525821 : Nat := 0
def PySem.W.Fast.tw1524328430721471308 : Nat := 0
def PySem.W.Fast.tw14657091432629813203 : Nat := 0
def PySem.W.Fast.tw16737507708929711831 : Nat := 0
def PySem.W.Fast.tw10294012433977960994 : Nat := 0
def PySem.W.Fast.tw3840981961151137685 : Nat := 0
def PySem.W.Fast.tw14665517484645812843 : Nat := 0
def PySem.W.Fast.tw9176778865075232152 : Nat := 0
def PySem.W.Fast.tw11331714987600748780 : Nat := 0
def PySem.W.Fast.tw8531091901957954149 : Nat := 0
def PySem.W.Fast.tw9816236146312263301 : Nat := 0
def PySem.W.Fast.tw12323569494011827041 : Nat := 0
def PySem.W.Fast.tw4885585059644517725 : Nat := 0
def PySem.W.Fast.tw14460464930343651428 : Nat := 0
def PySem.W.Fast.tw846381912335328728 : Nat := 0
def PySem.W.Fast.tw14267513533721855351 : Nat := 0
def PySem.W.Fast.tw12427551311531906658 : Nat := 0
def PySem.W.Fast.tw7148447824508892210 : Nat := 0
def PySem.W.Fast.tw6745959698173548213 : Nat := 0
def PySem.W.Fast.tw12073419827515766315 : Nat := 0
def PySem.W.Fast.tw9591544354738440583 : Nat := 0
def PySem.W.Fast.tw17924558107483769245 : Nat := 0
def PySem.W.Fast.tw11733892699595303104 : Nat := 0
def PySem.W.Fast.tw1808591632854755475 : Nat := 0
def PySem.W.Fast.tw569366518979516857 : Nat := 0
def PySem.W.Fast.tw9208501992033891043 : Nat := 0
def PySem.W.Fast.tw12494609153399965681 : Nat := 0
def PySem.W.Fast.tw13894024383676795069 : Nat := 0
def PySem.W.Fast.tw2797357076397838791 : Nat := 0
def PySem.W.Fast.tw11596159972846753946 : Nat := 0
def PySem.W.Fast.tw14846864572082221391 : Nat := 0
def PySem.W.Fast.tw12787429728335743716 : Nat := 0
def PySem.W.Fast.tw15113076922551027922 : Nat := 0
def PySem.W.Fast.tw13206340349279444203 : Nat := 0
def PySem.W.Fast.tw6747165282806184962 : Nat := 0
def PySem.W.Fast.tw11418499975124881203 : Nat := 0
def PySem.W.Fast.tw8031943375279885665 : Nat := 0
def PySem.W.Fast.tw7462547518971788601 : Nat := 0
def PySem.W.Fast.tw5983111896397140393 : Nat := 0
def PySem.W.Fast.tw10274463359828561878 : Nat := 0
def PySem.W.Fast.tw15191510731874221144 : Nat := 0
def PySem.W.Fast.tw14154446833856544043 : Nat := 0
def PySem.W.Fast.tw137791076675195773 : Nat := 0
def PySem.W.Fast.tw9419253175130176030 : Nat := 0
def PySem.W.Fast.tw5792619429223294564 : Nat := 0
def PySem.W.Fast.tw15647160251561444544 : Nat := 0
def PySem.W.Fast.tw17549456207700875324 : Nat := 0
def PySem.W.Fast.tw8079267144217624675 : Nat := 0
def PySem.W.Fast.tw17778518943040806615 : Nat := 0
def PySem.W.Fast.tw16079988335699511726 : Nat := 0
def PySem.W.Fast.tw12780528859916635658 : Nat := 0
def PySem.W.Fast.tw914939090821256854 : Nat := 0
def PySem.W.Fast.tw324350143822534669 : Nat := 0
def PySem.W.Fast.tw5935426190757309848 : Nat := 0
def PySem.W.Fast.tw8296793644218729911 : Nat := 0
def PySem.W.Fast.tw4173990177867305510 : Nat := 0
def PySem.W.Fast.tw465705011726121441 : Nat := 0
def PySem.W.Fast.tw10654588322675985620 : Nat := 0
def PySem.W.Fast.tw15220452393584255 : Nat := 0
def PySem.W.Fast.tw1390038737023560641 : Nat := 0
def PySem.W.Fast.tw6715415824325993635 : Nat := 0
def PySem.W.Fast.tw11594277565608597016 : Nat := 0
def PySem.W.Fast.tw11045510712216708998 : Nat := 0
def PySem.W.Fast.tw14148689671855304610 : Nat := 0
def PySem.W.Fast.tw15679531014670153095 : Nat := 0
def PySem.W.Fast.tw393604464019965383 : Nat := 0
def PySem.W.Fast.tw2321876782557078291 : Nat := 0
def PySem.W.Fast.tw10390280857858247306 : Nat := 0
def PySem.W.Fast.tw13073533480487071231 : Nat := 0
def PySem.W.Fast.tw13193031842236912766 : Nat := 0
def PySem.W.Fast.tw3488768724920362284 : Nat := 0
def PySem.W.Fast.tw10290031803542161546 : Nat := 0
def PySem.W.Fast.tw5705094266588993035 : Nat := 0
def PySem.W.Fast.tw7479508357668737942 : Nat := 0
def PySem.W.Fast.tw6748514479429339836 : Nat := 0
def PySem.W.Fast.tw8982381395302925950 : Nat := 0
def PySem.W.Fast.tw1489557700277017568 : Nat := 0
def PySem.W.Fast.tw1147892350230167258 : Nat := 0
def PySem.W.Fast.tw10613476454534755766 : Nat := 0
def PySem.W.Fast.tw8353631530524287867 : Nat := 0
def PySem.W.Fast.tw7212972855299964437 : Nat := 0
def PySem.W.Fast.tw12243348796844618508 : Nat := 0
def PySem.W.Fast.tw2183793639279501944 : Nat := 0
def PySem.W.Fast.tw8579250499724899714 : Nat := 0
def PySem.W.Fast.tw6566535937644447352 : Nat := 0
def PySem.W.Fast.tw17511440519872394994 : Nat := 0
def PySem.W.Fast.tw10729994242819139593 : Nat := 0
def PySem.W.Fast.tw7175321617564639458 : Nat := 0
def PySem.W.Fast.tw8588865786803582201 : Nat := 0
def PySem.W.Fast.tw8032455027636852707 : Nat := 0
def PySem.W.Fast.tw9021440293760028654 : Nat := 0
def PySem.W.Fast.tw12844776293328590660 : Nat := 0
def PySem.W.Fast.tw1478417843603550882 : Nat := 0
def PySem.W.Fast.tw5609538416550604187 : Nat := 0
def PySem.W.Fast.tw10157879270348694296 : Nat := 0
def PySem.W.Fast.tw18393760976287049550 : Nat := 0
def PySem.W.Fast.tw2796004790750204541 : Nat := 0
def PySem.W.Fast.tw17214548040088324462 : Nat := 0
def PySem.W.Fast.tw1221763400612470107 : Nat := 0
def PySem.W.Fast.tw12984756229554591139 : Nat := 0
def PySem.W.Fast.tw15423850953466153988 : Nat := 0
def PySem.W.Fast.tw13706774146635628891 : Nat := 0
def PySem.W.Fast.tw4585839313125502761 : Nat := 0
def PySem.W.Fast.tw11801505774066625978 : Nat := 0
def PySem.W.Fast.tw3242994990993987040 : Nat := 0
def PySem.W.Fast.tw2705966122065867809 : Nat := 0
def PySem.W.Fast.tw6120409374313530645 : Nat := 0
def PySem.W.Fast.tw11136578455068771487 : Nat := 0
def PySem.W.Fast.tw14449170211888917133 : Nat := 0
def PySem.W.Fast.tw8185817931532167723 : Nat := 0
def PySem.W.Fast.tw1371189080467458613 : Nat := 0
def PySem.W.Fast.tw17686837237161625613 : Nat := 0
def PySem.W.Fast.tw5480264185239326603 : Nat := 0
def PySem.W.Fast.tw5914217276750680595 : Nat := 0
def PySem.W.Fast.tw16837084075819980161 : Nat := 0
def PySem.W.Fast.tw4204270789699329411 : Nat := 0
def PySem.W.Fast.tw18333377010593313238 : Nat := 0
def PySem.W.Fast.tw4194578049129824753 : Nat := 0
def PySem.W.Fast.tw15734279965164764749 : Nat := 0
def PySem.W.Fast.tw6758673528767860951 : Nat := 0
def PySem.W.Fast.tw13665306478780807900 : Nat := 0
def PySem.W.Fast.tw2179631940096172139 : Nat := 0
def PySem.W.Fast.tw18056358985496014303 : Nat := 0
def PySem.W.Fast.tw6503250670775362562 : Nat := 0
def PySem.W.Fast.tw5401011136078282236 : Nat := 0
def PySem.W.Fast.tw18427673838097041857 : Nat := 0
def PySem.W.Fast.tw4897156241486854624 : Nat := 0
def PySem.W.Fast.tw6879293760327326226 : Nat := 0
def PySem.W.Fast.tw1776993071030680066 : Nat := 0
def PySem.W.Fast.tw10011677169214692506 : Nat := 0
def PySem.W.Fast.tw1845417530725919841 : Nat := 0
def PySem.W.Fast.tw16492237371760565983 : Nat := 0
def PySem.W.Fast.tw13002453501101494858 : Nat := 0
def PySem.W.Fast.tw2901040441125825979 : Nat := 0
def PySem.W.Fast.tw6395275907000991076 : Nat := 0
def PySem.W.Fast.tw16765512049646018431 : Nat := 0
def PySem.W.Fast.tw4525273219464070700 : Nat := 0
def PySem.W.Fast.tw17167432106557000510 : Nat := 0
def PySem.W.Fast.tw11778506785005719981 : Nat := 0
def PySem.W.Fast.tw6698303794139950669 : Nat := 0
def PySem.W.Fast.tw2807262095780544208 : Nat := 0
def PySem.W.Fast.tw15777160287515778912 : Nat := 0
def PySem.W.Fast.tw13436232871798088403 : Nat := 0
def PySem.W.Fast.tw7911823890666260847 : Nat := 0
def PySem.W.Fast.tw9531977707775431619 : Nat := 0
def PySem.W.Fast.tw5009096421106772157 : Nat := 0
def PySem.W.Fast.tw10502879362777694471 : Nat := 0
def PySem.W.Fast.tw14692436285704481145 : Nat := 0
def PySem.W.Fast.tw4517900010592494078 : Nat := 0
def PySem.W.Fast.tw869633360534081279 : Nat := 0
def PySem.W.Fast.tw15348117999482343216 : Nat := 0
def PySem.W.Fast.tw17239339133316009050 : Nat := 0
def PySem.W.Fast.tw13886070645285412416 : Nat := 0
def PySem.W.Fast.tw6980417775696633489 : Nat := 0
def PySem.W.Fast.tw10695529511160961635 : Nat := 0
def PySem.W.Fast.tw4515758171168598373 : Nat := 0
def PySem.W.Fast.tw11690813485354997758 : Nat := 0
def PySem.W.Fast.tw13559645564333667465 : Nat := 0
def PySem.W.Fast.tw16063567808817107250 : Nat := 0
def PySem.W.Fast.tw7078639142635165482 : Nat := 0
def PySem.W.Fast.tw11279945842087869908 : Nat := 0
def PySem.W.Fast.tw6875020672242778020 : Nat := 0
def PySem.W.Fast.tw15308132533255392463 : Nat := 0
def PySem.W.Fast.tw16103458664052887085 : Nat := 0
def PySem.W.Fast.tw12609615862403052929 : Nat := 0
def PySem.W.Fast.tw13725263070075505858 : Nat := 0
def PySem.W.Fast.tw6358959049232443870 : Nat := 0
def PySem.W.Fast.tw9619844556033135155 : Nat := 0
def PySem.W.Fast.tw3929324673523081045 : Nat := 0
def PySem.W.Fast.tw1820399065633889203 : Nat := 0
def PySem.W.Fast.tw675474239764518726 : Nat := 0
def PySem.W.Fast.tw1714188949553617239 : Nat := 0
def PySem.W.Fast.tw15143472826301482685 : Nat := 0
def PySem.W.Fast.tw15200173574505600648 : Nat := 0
def PySem.W.Fast.tw13532251453605508511 : Nat := 0
def PySem.W.Fast.tw7911791680103155537 : Nat := 0
def PySem.W.Fast.tw15272369790011118178 : Nat := 0
def PySem.W.Fast.tw7215804430234048908 : Nat := 0
def PySem.W.Fast.tw1718520639837002871 : Nat := 0
def PySem.W.Fast.tw4505393861448286031 : Nat := 0
def PySem.W.Fast.tw15869580223635231920 : Nat := 0
def PySem.W.Fast.tw5236268543136291683 : Nat := 0
def PySem.W.Fast.tw1439981774248504430 : Nat := 0
def PySem.W.Fast.tw3263206940603356887 : Nat := 0
def PySem.W.Fast.tw17447040071901585191 : Nat := 0
def PySem.W.Fast.tw431436014624754064 : Nat := 0
def PySem.W.Fast.tw5721732353181791861 : Nat := 0
def PySem.W.Fast.tw14322499060550206855 : Nat := 0
def PySem.W.Fast.tw14286430672219888775 : Nat := 0
def PySem.W.Fast.tw12932034440430983878 : Nat := 0
def PySem.W.Fast.tw17527447002266621653 : Nat := 0
def PySem.W.Fast.tw1055114186040007218 : Nat := 0
def PySem.W.Fast.tw4930547134709849133 : Nat := 0
def PySem.W.Fast.tw10779172145428915317 : Nat := 0
def PySem.W.Fast.tw17832018698642993890 : Nat := 0
def PySem.W.Fast.tw17346388936404254692 : Nat := 0
def PySem.W.Fast.tw18136271716862337773 : Nat := 0
def PySem.W.Fast.tw14573364004478277631 : Nat := 0
def PySem.W.Fast.tw433801970690852690 : Nat := 0
def PySem.W.Fast.tw16060141970932024769 : Nat := 0
def PySem.W.Fast.tw12110285631501090692 : Nat := 0
def PySem.W.Fast.tw9272004266800460101 : Nat := 0
def PySem.W.Fast.tw6097888414167282648 : Nat := 0
def PySem.W.Fast.tw12057591697826113451 : Nat := 0
def PySem.W.Fast.tw17564317683170198433 : Nat := 0
def PySem.W.Fast.tw1677555676562966609 : Nat := 0
def PySem.W.Fast.tw4979022563257842629 : Nat := 0
def PySem.W.Fast.tw14698037169796979274 : Nat := 0
def PySem.W.Fast.tw5057859933830921061 : Nat := 0
def PySem.W.Fast.tw11965548072156913250 : Nat := 0
def PySem.W.Fast.tw16379582302400603470 : Nat := 0
def PySem.W.Fast.tw11281739664907733210 : Nat := 0
def PySem.W.Fast.tw7203782568290923890 : Nat := 0
def PySem.W.Fast.tw16060091861593637786 : Nat := 0
def PySem.W.Fast.tw314792801823393494 : Nat := 0
def PySem.W.Fast.tw17854888812249650175 : Nat := 0
def PySem.W.Fast.tw9967593125959939976 : Nat := 0
def PySem.W.Fast.tw149451375344398537 : Nat := 0
def PySem.W.Fast.tw4073669253436247017 : Nat := 0
def PySem.W.Fast.tw10716871231006381753 : Nat := 0
def PySem.W.Fast.tw10880611634646297146 : Nat := 0
def PySem.W.Fast.tw4971986370554741587 : Nat := 0
def PySem.W.Fast.tw4503432856926323917 : Nat := 0
def PySem.W.Fast.tw11883200743754400827 : Nat := 0
def PySem.W.Fast.tw12454829850375722124 : Nat := 0
def PySem.W.Fast.tw1841403344417128192 : Nat := 0
def PySem.W.Fast.tw16788175542916243900 : Nat := 0
def PySem.W.Fast.tw9685807260589059100 : Nat := 0
def PySem.W.Fast.tw976172286591037775 : Nat := 0
def PySem.W.Fast.tw12687805901112670619 : Nat := 0
def PySem.W.Fast.tw6964420197281352610 : Nat := 0
def PySem.W.Fast.tw16134687544177181321 : Nat := 0
def PySem.W.Fast.tw831198781546104624 : Nat := 0
def PySem.W.Fast.tw17388849224245725733 : Nat := 0
def PySem.W.Fast.tw6498130549346372849 : Nat := 0
def PySem.W.Fast.tw7769842115573538432 : Nat := 0
def PySem.W.Fast.tw1157618149259113317 : Nat := 0
def PySem.W.Fast.tw11706597121442769825 : Nat := 0
def PySem.W.Fast.tw172838409052605728 : Nat := 0
def PySem.W.Fast.tw8595568399504101096 : Nat := 0
def PySem.W.Fast.tw7602048244197389635 : Nat := 0
def PySem.W.Fast.tw10179379343661211544 : Nat := 0
def PySem.W.Fast.tw5102653153955597924 : Nat := 0
def PySem.W.Fast.tw5084737796898055983 : Nat := 0
def PySem.W.Fast.tw13100310450041656444 : Nat := 0
def PySem.W.Fast.tw7866428708006120373 : Nat := 0
def PySem.W.Fast.tw14927023969985581209 : Nat := 0
def PySem.W.Fast.tw6623259073074056806 : Nat := 0
def PySem.W.Fast.tw9369900673507129883 : Nat := 0
def PySem.W.Fast.tw14120633340952772741 : Nat := 0
def PySem.W.Fast.tw13940884149414939561 : Nat := 0
def PySem.W.Fast.tw5798398036877396444 : Nat := 0
def PySem.W.Fast.tw2784389373197795370 : Nat := 0
def PySem.W.Fast.tw11922651420783553877 : Nat := 0
def PySem.W.Fast.tw13830498554555567773 : Nat := 0
def PySem.W.Fast.tw17872217410713604516 : Nat := 0
def PySem.W.Fast.tw6298998884224689073 : Nat := 0
def PySem.W.Fast.tw2158689462639948536 : Nat := 0
def PySem.W.Fast.tw5467605062285805516 : Nat := 0
def PySem.W.Fast.tw1908592832414080201 : Nat := 0
def PySem.W.Fast.tw6721102273066203955 : Nat := 0
def PySem.W.Fast.tw13920264029248641023 : Nat := 0
def PySem.W.Fast.tw11722775412960317377 : Nat := 0
def PySem.W.Fast.tw15604398857245514709 : Nat := 0
def PySem.W.Fast.tw10140546706988015397 : Nat := 0
def PySem.W.Fast.tw4584204148311450337 : Nat := 0
def PySem.W.Fast.tw8880529799056353294 : Nat := 0
def PySem.W.Fast.tw9144725156506236733 : Nat := 0
def PySem.W.Fast.tw3988032485646057033 : Nat := 0
def PySem.W.Fast.tw17439074039763548030 : Nat := 0
def PySem.W.Fast.tw5766564820384167340 : Nat := 0
def PySem.W.Fast.tw10612056411508340322 : Nat := 0
def PySem.W.Fast.tw18242428396227028066 : Nat := 0
def PySem.W.Fast.tw3940586654430104756 : Nat := 0
def PySem.W.Fast.tw12922729375184828719 : Nat := 0
def PySem.W.Fast.tw16845665617593148349 : Nat := 0
def PySem.W.Fast.tw449776541423397804 : Nat := 0
def PySem.W.Fast.tw7732132880055371067 : Nat := 0
def PySem.W.Fast.tw10106445399030860742 : Nat := 0
def PySem.W.Fast.tw2045835948434212839 : Nat := 0
def PySem.W.Fast.tw3875503622481052028 : Nat := 0
def PySem.W.Fast.tw13430445391466013429 : Nat := 0
def PySem.W.Fast.tw3220293557312359989 : Nat := 0
def PySem.W.Fast.tw12250052288679150207 : Nat := 0
def PySem.W.Fast.tw18315847359368247869 : Nat := 0
def PySem.W.Fast.tw14223375986457411277 : Nat := 0
def PySem.W.Fast.tw1837071918945923798 : Nat := 0
def PySem.W.Fast.tw16453736542479095452 : Nat := 0
def PySem.W.Fast.tw6531189546394894444 : Nat := 0
def PySem.W.Fast.tw8566382359357688753 : Nat := 0
def PySem.W.Fast.tw5623717737380109744 : Nat := 0
def PySem.W.Fast.tw16246276913377946801 : Nat := 0
def PySem.W.Fast.tw5633353797473402154 : Nat := 0
def PySem.W.Fast.tw6935089709597248165 : Nat := 0
def PySem.W.Fast.tw17913426162103997712 : Nat := 0
def PySem.W.Fast.tw17550845807318349499 : Nat := 0
def PySem.W.Fast.tw9466283904171955960 : Nat := 0
def PySem.W.Fast.tw9876883361812002532 : Nat := 0
def PySem.W.Fast.tw6068554855494223170 : Nat := 0
def PySem.W.Fast.tw13271484131096387204 : Nat := 0
def PySem.W.Fast.tw8487869441147365658 : Nat := 0
def PySem.W.Fast.tw2268272655298575486 : Nat := 0
def PySem.W.Fast.tw11074109753126405973 : Nat := 0
def PySem.W.Fast.tw16132666002891385958 : Nat := 0
def PySem.W.Fast.tw17514744781364884674 : Nat := 0
def PySem.W.Fast.tw15471349423491924901 : Nat := 0
def PySem.W.Fast.tw7031483528369575739 : Nat := 0
def PySem.W.Fast.tw3337011207151340102 : Nat := 0
def PySem.W.Fast.tw15350390319041226821 : Nat := 0
def PySem.W.Fast.tw18335822885654327018 : Nat := 0
def PySem.W.Fast.tw13480000367545863750 : Nat := 0
def PySem.W.Fast.tw11711785120646232649 : Nat := 0
def PySem.W.Fast.tw18416760542699933297 : Nat := 0
def PySem.W.Fast.tw2880788196262780920 : Nat := 0
def PySem.W.Fast.tw14610416224861252455 : Nat := 0
def PySem.W.Fast.tw364703296836007801 : Nat := 0
def PySem.W.Fast.tw7280901087469910200 : Nat := 0
def PySem.W.Fast.tw815688048108339586 : Nat := 0
def PySem.W.Fast.tw15211404032111832055 : Nat := 0
def PySem.W.Fast.tw4044722865179514997 : Nat := 0
def PySem.W.Fast.tw10502141947026044064 : Nat := 0
def PySem.W.Fast.tw15938981838425123482 : Nat := 0
def PySem.W.Fast.tw16855603629444357829 : Nat := 0
def PySem.W.Fast.tw12931756171302727869 : Nat := 0
def PySem.W.Fast.tw7250420369833759402 : Nat := 0
def PySem.W.Fast.tw17137255512733314283 : Nat := 0
def PySem.W.Fast.tw8873301381005089870 : Nat := 0
def PySem.W.Fast.tw8440557434466496256 : Nat := 0
def PySem.W.Fast.tw12727415797821414578 : Nat := 0
def PySem.W.Fast.tw10120860086628215470 : Nat := 0
def PySem.W.Fast.tw8325439160092666908 : Nat := 0
def PySem.W.Fast.tw18009947608041252210 : Nat := 0
def PySem.W.Fast.tw15049686416127016940 : Nat := 0
def PySem.W.Fast.tw17780899026529014936 : Nat := 0
def PySem.W.Fast.tw14742344392386525067 : Nat := 0
def PySem.W.Fast.tw15288109644346323333 : Nat := 0
def PySem.W.Fast.tw3928358394963049479 : Nat := 0
def PySem.W.Fast.tw12982425483093487583 : Nat := 0
def PySem.W.Fast.tw18289064994012954352 : Nat := 0
def PySem.W.Fast.tw13754780160961758762 : Nat := 0
def PySem.W.Fast.tw945932274810517071 : Nat := 0
def PySem.W.Fast.tw11788138957988701836 : Nat := 0
def PySem.W.Fast.tw95425435377500010 : Nat := 0
def PySem.W.Fast.tw6015906513987907979 : Nat := 0
def PySem.W.Fast.tw6241661147770274001 : Nat := 0
def PySem.W.Fast.tw7707115760024977373 : Nat := 0
def PySem.W.Fast.tw16816530019870829529 : Nat := 0
def PySem.W.Fast.tw393896350563943637 : Nat := 0
def PySem.W.Fast.tw4651307707550529128 : Nat := 0
def PySem.W.Fast.tw13969466146005043508 : Nat := 0
def PySem.W.Fast.tw2749088857022867741 : Nat := 0
def PySem.W.Fast.tw16503823546866947734 : Nat := 0
def PySem.W.Fast.tw15556219926120347512 : Nat := 0
def PySem.W.Fast.tw17916652362260371218 : Nat := 0
def PySem.W.Fast.tw4871882630283259220 : Nat := 0
def PySem.W.Fast.tw17388695580297272592 : Nat := 0
def PySem.W.Fast.tw2829902608090069884 : Nat := 0
def PySem.W.Fast.tw7833757265430711539 : Nat := 0
def PySem.W.Fast.tw4198026269747979863 : Nat := 0
def PySem.W.Fast.tw13604292170638121592 : Nat := 0
def PySem.W.Fast.tw1940402639722286595 : Nat := 0
def PySem.W.Fast.tw17807014834231848388 : Nat := 0
def PySem.W.Fast.tw7792522307498663322 : Nat := 0
def PySem.W.Fast.tw12140690893088067485 : Nat := 0
def PySem.W.Fast.tw14388375553412837434 : Nat := 0
def PySem.W.Fast.tw1677165449847177069 : Nat := 0
def PySem.W.Fast.tw3139432640663269884 : Nat := 0
def PySem.W.Fast.tw16403625569928508649 : Nat := 0
def PySem.W.Fast.tw15225117383116120490 : Nat := 0
def PySem.W.Fast.tw18003856254566895439 : Nat := 0
def PySem.W.Fast.tw12154762022327199251 : Nat := 0
def PySem.W.Fast.tw18330599967829600307 : Nat := 0
def PySem.W.Fast.tw8006039838944592462 : Nat := 0
def PySem.W.Fast.tw5607101770228598003 : Nat := 0
def PySem.W.Fast.tw9747673182130075015 : Nat := 0
def PySem.W.Fast.tw9644633209590882539 : Nat := 0
def PySem.W.Fast.tw7059969135167039909 : Nat := 0
def PySem.W.Fast.tw13631663807553868088 : Nat := 0
def PySem.W.Fast.tw12434656163189715488 : Nat := 0
set_option maxRecDepth 100000 in
set_option maxHeartbeats 0 in
open_top K04hd for PySem.Challenge.rw_stillranges_k04_errors_by_their_classes
namespace Lv
open PySem PySem.Spec PyProof.Rows L2
inductive D where
  | ty (n : String) | kl (ds : List D) | vl (ds : List D)
  | non | bl (b : Bool) | int (i : Int) | str (x : Str) | tup (ds : List D) | ref (n : Nat)
  | dv (ks : List Key) (ds : List D)
  | gl (n : Str) | exc (n : Str) (d : D)
  | lam (f c : Addr) (q : Str) (σ : List (Option V)) (ix : List Nat) (ds : List D)
inductive Cell where
  | lst (ds : List D) | frz (ds : List D) | dic (ks : List Key) (ds : List D) | dit (ks : List (List Key)) (ds : List D)
  | tbl (n q : Str)
abbrev Sto := List Cell
abbrev Env := List (Option D)
def Cell.items : Cell → List D
  | .lst ds => ds
  | .frz ds => ds
  | .dic _ ds => ds
  | .dit _ ds => ds
  | .tbl _ _ => []
@[reducible] def Cell.its : Cell → Option (List D)
  | .lst ds => some ds
  | .frz ds => some ds
  | _ => none
theorem Cell.its_items {c : Cell} {ds : List D} (h : c.its = some ds) : c.items = ds := by
  cases c <;> cases h <;> rfl
def KLst (K : PySem.W.Frag) (a : Addr) (xs : List V) : Prop := ∀ H : Hp, SqL K H a xs
def FL (ρ : List Addr) (H : Hp) (a : Addr) (xs : List V) : Prop := H a = some (.lst xs) ∧ a ∉ ρ
theorem FL.sq {K : PySem.W.Frag} {ρ : List Addr} {H : Hp} {a : Addr} {xs : List V} (h : FL ρ H a xs) : SqL K H a xs := .inl (.inl h.1)
def IsL (H : Hp) (a : Addr) : Prop := (∃ xs, H a = some (.lst xs)) ∨ ∃ o xs, H a = some (.frz o (.lst xs))
theorem IsL.lst {H : Hp} {a : Addr} {xs : List V} (h : H a = some (.lst xs)) : IsL H a := .inl ⟨xs, h⟩
def GA (K : PySem.W.Frag) (n : Str) (a : Addr) : Prop := PySem.W.nsIn K mainGlobals n = some (some (.ref a))
def ExK (a C d : Addr) : HO := .ext fun h => ∃ (oe : Obj) (vs : Array Value), h.get? a = some oe ∧ oe.cls = .ref C ∧ oe.dict = some d ∧ oe.data = .fields vs
def ExN (a C : Addr) : HO := .ext fun h => ∃ (oe : Obj) (vs : Array Value), h.get? a = some oe ∧ oe.cls = .ref C ∧ oe.dict = none ∧ oe.data = .fields vs
def TabR (ρ : List Addr) (H : Hp) (P : Addr) (q : Str) : Prop := ∃ ps : Array Value, H P = some (.tbl ps) ∧ TriplesOk ps.toList ∧ ∀ (pos : Pos) (cv : Value), codeAmong pos ps.toList = some cv → ∃ c, cv = .ref c ∧ c ∉ ρ ∧ H c = some (LamX.CodeO c q)
inductive RD (K : PySem.W.Frag) (ρ : List Addr) (H : Hp) : V → D → Prop
  | ty (n : String) : RD K ρ H (.ty n) (.ty n)
  | kl {a : Addr} {xs : List V} {ds : List D} : KLst K a xs → (hl : xs.length = ds.length) → (∀ (i : Nat) x d, xs[i]? = some x → ds[i]? = some d → RD K ρ H x d) → RD K ρ H (.ref a) (.kl ds)
  | vl {a : Addr} {xs : List V} {ds : List D} : FL ρ H a xs → (hl : xs.length = ds.length) → (∀ (i : Nat) x d, xs[i]? = some x → ds[i]? = some d → RD K ρ H x d) → RD K ρ H (.ref a) (.vl ds)
  | non : RD K ρ H .non .non
  | bl (b : Bool) : RD K ρ H (.bl b) (.bl b)
  | int (i : Int) : RD K ρ H (.int i) (.int i)
  | str (x : Str) : RD K ρ H (.str x) (.str x)
  | tup {a : Addr} {xs : List V} {ds : List D} : SqT K H a xs → (hl : xs.length = ds.length) → (∀ (i : Nat) x d, xs[i]? = some x → ds[i]? = some d → RD K ρ H x d) → RD K ρ H (.ref a) (.tup ds)
  | ref {n : Nat} {a : Addr} : ρ[n]? = some a → IsL H a → RD K ρ H (.ref a) (.ref n)
  | dv {a : Addr} {kvs : List (Key × V)} {ks : List Key} {ds : List D} : H a = some (.dK kvs) → a ∉ ρ → kvs.map (·.1) = ks → (hl : kvs.length = ds.length) → (∀ (i : Nat) x d, (kvs.map (·.2))[i]? = some x → ds[i]? = some d → RD K ρ H x d) → RD K ρ H (.ref a) (.dv ks ds)
  | gl {a : Addr} {n : Str} : GA K n a → RD K ρ H (.ref a) (.gl n)
  | exc {a C d : Addr} {fs : List (Str × V)} {x : V} {n : Str} {v : D} : GA K n C → H a = some (ExK a C d) → H d = some (.xd fs) → a ∉ ρ → d ∉ ρ → fs.lookup ("value" : Str) = some x → RD K ρ H x v → RD K ρ H (.ref a) (.exc n v)
  | excN {a C : Addr} {n : Str} : GA K n C → H a = some (ExN a C) → a ∉ ρ → RD K ρ H (.ref a) (.exc n (.ty "#"))
  | lam {f c : Addr} {q : Str} {σ : List (Option V)} {ix : List Nat} {xs : List V} {ds : List D} : H c = some (LamX.CodeO c q) → c ∉ ρ → (hl : xs.length = ds.length) → (∀ (i : Nat) x d, xs[i]? = some x → ds[i]? = some d → RD K ρ H x d) →
      (∀ (k i : Nat) x, ix[k]? = some i → xs[k]? = some x → σ[i]? = some (some x)) → RD K ρ H (.ref f) (.lam f c q σ ix ds)
structure RDs (K : PySem.W.Frag) (ρ : List Addr) (H : Hp) (xs : List V) (ds : List D) : Prop where
  len : xs.length = ds.length
  at_ : ∀ (i : Nat) x d, xs[i]? = some x → ds[i]? = some d → RD K ρ H x d
def CellOk (K : PySem.W.Frag) (ρ : List Addr) (H : Hp) (a : Addr) : Cell → Prop
  | .lst ds => ∃ xs, H a = some (.lst xs) ∧ RDs K ρ H xs ds
  | .frz ds => ∃ xs o, H a = some (.frz o (.lst xs)) ∧ RDs K ρ H xs ds
  | .dic ks ds => ∃ kvs : List (Key × V), H a = some (.dK kvs) ∧ kvs.map (·.1) = ks ∧ RDs K ρ H (kvs.map (·.2)) ds
  | .dit ks ds => ∃ kvs : List (List Key × V), H a = some (.dT kvs) ∧ kvs.map (·.1) = ks ∧ RDs K ρ H (kvs.map (·.2)) ds
  | .tbl n q => (∃ c, PySem.W.tabIn K n = some (c, a)) ∧ TabR ρ H a q
structure Rel (K : PySem.W.Frag) (ρ : List Addr) (H : Hp) (S : Sto) : Prop where
  len : ρ.length = S.length
  nd : ρ.Nodup
  cell : ∀ (n : Nat) a c, ρ[n]? = some a → S[n]? = some c → CellOk K ρ H a c
structure Ext (ρ : List Addr) (H : Hp) (ρ' : List Addr) (H' : Hp) : Prop where
  pre : ∃ more, ρ' = ρ ++ more
  new : ∀ p, p ∈ ρ' → p ∉ ρ → H p = none
  keep : ∀ b o, H b = some o → b ∉ ρ → H' b = some o
  kind : ∀ a, a ∈ ρ → IsL H a → IsL H' a
theorem Ext.refl (ρ : List Addr) (H : Hp) : Ext ρ H ρ H := ⟨⟨[], by simp⟩, fun p h n => absurd h n, fun _ _ h _ => h, fun _ _ h => h⟩
theorem Ext.trans {ρ ρ1 ρ2 : List Addr} {H H1 H2 : Hp} (a : Ext ρ H ρ1 H1) (b : Ext ρ1 H1 ρ2 H2) : Ext ρ H ρ2 H2 := by
  obtain ⟨m1, e1⟩ := a.pre
  obtain ⟨m2, e2⟩ := b.pre
  refine ⟨⟨m1 ++ m2, by rw [e2, e1, List.append_assoc]⟩, fun p hp hn => ?_, fun c o hc hn => ?_, fun c hc hl => b.kind c (by rw [e1]; exact List.mem_append_left _ hc) (a.kind c hc hl)⟩
  · by_cases h1 : p ∈ ρ1
    · exact a.new p h1 hn
    · have q := b.new p hp h1
      cases e : H p with
      | none => rfl
      | some o =>
        rw [a.keep p o e hn] at q
        cases q
  · have q := a.keep c o hc hn
    refine b.keep c o q fun z => ?_
    rw [a.new c z hn] at hc
    cases hc
theorem Ext.get {ρ ρ' : List Addr} {H H' : Hp} (e : Ext ρ H ρ' H') {n : Nat} {a : Addr} (h : ρ[n]? = some a) : ρ'[n]? = some a := by
  obtain ⟨m, rfl⟩ := e.pre
  rw [List.getElem?_append_left (List.getElem?_eq_some_iff.mp h).1]
  exact h
section
variable {K : PySem.W.Frag} {ρ ρ' ρ1 : List Addr} {H H' H1 : Hp} {S S' : Sto}
theorem Rel.at_ (r : Rel K ρ H S) {n : Nat} {c : Cell} (h : S[n]? = some c) : ∃ a, ρ[n]? = some a ∧ CellOk K ρ H a c := by
  have hl := (List.getElem?_eq_some_iff.mp h).1
  have hl' : n < ρ.length := by rw [r.len]; exact hl
  exact ⟨_, List.getElem?_eq_getElem hl', r.cell n _ c (List.getElem?_eq_getElem hl') h⟩
theorem Rel.of (r : Rel K ρ H S) {n : Nat} {a : Addr} (h : ρ[n]? = some a) : ∃ c, S[n]? = some c ∧ CellOk K ρ H a c := by
  have hl := (List.getElem?_eq_some_iff.mp h).1
  have hl' : n < S.length := by rw [← r.len]; exact hl
  exact ⟨_, List.getElem?_eq_getElem hl', r.cell n _ _ h (List.getElem?_eq_getElem hl')⟩
theorem CellOk.noT {a : Addr} {c : Cell} (h : CellOk K ρ H a c) (xs : List V) : ¬ Rd H a (.tup xs) := by
  intro q
  cases c with
  | lst ds =>
    obtain ⟨ys, e, _⟩ := h
    rcases q with q | ⟨o, q⟩ <;> rw [e] at q <;> cases q
  | frz ds =>
    obtain ⟨ys, o', e, _⟩ := h
    rcases q with q | ⟨o, q⟩ <;> rw [e] at q <;> cases q
  | dic ks ds =>
    obtain ⟨ys, e, _⟩ := h
    rcases q with q | ⟨o, q⟩ <;> rw [e] at q <;> cases q
  | dit ks ds =>
    obtain ⟨ys, e, _⟩ := h
    rcases q with q | ⟨o, q⟩ <;> rw [e] at q <;> cases q
  | tbl z1 z =>
    obtain ⟨_, ps, e, _⟩ := h
    rcases q with q | ⟨o, q⟩ <;> rw [e] at q <;> cases q
theorem CellOk.isl {a : Addr} {c : Cell} (h : CellOk K ρ H a c) (hl : IsL H a) : c.its = some c.items := by
  cases c with
  | lst ds => rfl
  | frz ds => rfl
  | dic ks ds =>
    obtain ⟨ys, e, _⟩ := h
    rcases hl with ⟨xs, q⟩ | ⟨o, xs, q⟩ <;> rw [e] at q <;> cases q
  | dit ks ds =>
    obtain ⟨ys, e, _⟩ := h
    rcases hl with ⟨xs, q⟩ | ⟨o, xs, q⟩ <;> rw [e] at q <;> cases q
  | tbl z1 z =>
    obtain ⟨_, ys, e, _⟩ := h
    rcases hl with ⟨xs, q⟩ | ⟨o, xs, q⟩ <;> rw [e] at q <;> cases q
theorem Rel.noT (r : Rel K ρ H S) {a : Addr} {xs : List V} (q : Rd H a (.tup xs)) : a ∉ ρ := by
  intro hm
  obtain ⟨n, hn⟩ := List.getElem?_of_mem hm
  obtain ⟨c, _, hc⟩ := r.of hn
  exact hc.noT xs q
theorem SqT.ext (r : Rel K ρ H S) (e : Ext ρ H ρ' H') {a : Addr} {xs : List V} (h : SqT K H a xs) : SqT K H' a xs := by
  rcases h with h | h
  · have hn := r.noT h
    rcases h with h | ⟨o, h⟩
    · exact .inl (.inl (e.keep _ _ h hn))
    · exact .inl (.inr ⟨o, e.keep _ _ h hn⟩)
  · exact .inr h
theorem FL.ext (e : Ext ρ H ρ' H') {a : Addr} {xs : List V} (h : FL ρ H a xs) : FL ρ' H' a xs := by
  refine ⟨e.keep _ _ h.1 h.2, fun hm => ?_⟩
  have := h.1
  rw [e.new a hm h.2] at this
  cases this
theorem RD.ext (r : Rel K ρ H S) (e : Ext ρ H ρ' H') {v : V} {d : D} (h : RD K ρ H v d) : RD K ρ' H' v d := by
  induction h with
  | ty n => exact .ty n
  | kl hs hl ha ih => exact .kl hs hl ih
  | vl hs hl ha ih => exact .vl (FL.ext e hs) hl ih
  | non => exact .non
  | bl b => exact .bl b
  | int i => exact .int i
  | str x => exact .str x
  | tup hs hl ha ih => exact .tup (SqT.ext r e hs) hl ih
  | ref h hk => exact .ref (e.get h) (e.kind _ (List.mem_of_getElem? h) hk)
  | dv h hn hk hl ha ih => exact .dv (e.keep _ _ h hn) (fun hm => by rw [e.new _ hm hn] at h; cases h) hk hl ih
  | gl h => exact .gl h
  | lam h1 h2 hl ha h5 ih => exact .lam (e.keep _ _ h1 h2) (fun hm => by rw [e.new _ hm h2] at h1; cases h1) hl ih h5
  | exc h1 h2 h3 h4 h5 h6 h7 ih => exact .exc h1 (e.keep _ _ h2 h4) (e.keep _ _ h3 h5) (fun hm => by rw [e.new _ hm h4] at h2; cases h2) (fun hm => by rw [e.new _ hm h5] at h3; cases h3) h6 ih
  | excN h1 h2 h3 => exact .excN h1 (e.keep _ _ h2 h3) (fun hm => by rw [e.new _ hm h3] at h2; cases h2)
theorem RDs.ext (r : Rel K ρ H S) (e : Ext ρ H ρ' H') {xs : List V} {ds : List D} (h : RDs K ρ H xs ds) : RDs K ρ' H' xs ds := ⟨h.len, fun i x d a b => (h.at_ i x d a b).ext r e⟩
theorem RDs.nil : RDs K ρ H [] [] := ⟨rfl, fun i x d a _ => by simp at a⟩
theorem RDs.cons {x : V} {d : D} {xs : List V} {ds : List D} (h : RD K ρ H x d) (t : RDs K ρ H xs ds) : RDs K ρ H (x :: xs) (d :: ds) := by
  refine ⟨by simp [t.len], fun i y e a b => ?_⟩
  cases i with
  | zero =>
    simp at a b
    subst a; subst b
    exact h
  | succ i =>
    simp at a b
    exact t.at_ i y e a b
theorem RDs.append {xs ys : List V} {ds es : List D} (h : RDs K ρ H xs ds) (t : RDs K ρ H ys es) : RDs K ρ H (xs ++ ys) (ds ++ es) := by
  refine ⟨by simp [h.len, t.len], fun i y e a b => ?_⟩
  by_cases hi : i < xs.length
  · rw [List.getElem?_append_left hi] at a
    rw [List.getElem?_append_left (by rw [← h.len]; exact hi)] at b
    exact h.at_ i y e a b
  · rw [List.getElem?_append_right (by omega)] at a
    rw [List.getElem?_append_right (by rw [← h.len]; omega), ← h.len] at b
    exact t.at_ _ y e a b
theorem RDs.get {xs : List V} {ds : List D} (h : RDs K ρ H xs ds) {i : Nat} {d : D} (e : ds[i]? = some d) : ∃ x, xs[i]? = some x ∧ RD K ρ H x d := by
  have hl : i < xs.length := by rw [h.len]; exact (List.getElem?_eq_some_iff.mp e).1
  exact ⟨_, List.getElem?_eq_getElem hl, h.at_ i _ d (List.getElem?_eq_getElem hl) e⟩
theorem RDs.drop {xs : List V} {ds : List D} (h : RDs K ρ H xs ds) (k : Nat) : RDs K ρ H (xs.drop k) (ds.drop k) :=
  ⟨by simp [h.len], fun i x d a b => h.at_ _ x d (by rw [List.getElem?_drop] at a; exact a) (by rw [List.getElem?_drop] at b; exact b)⟩
theorem RDs.take {xs : List V} {ds : List D} (h : RDs K ρ H xs ds) (k : Nat) : RDs K ρ H (xs.take k) (ds.take k) := by
  refine ⟨by simp [h.len], fun i x d a b => ?_⟩
  rw [List.getElem?_take] at a b
  split at a
  · rename_i hi
    rw [if_pos hi] at b
    exact h.at_ i x d a b
  · cases a
theorem RDs.set {xs : List V} {ds : List D} (h : RDs K ρ H xs ds) (k : Nat) {x : V} {d : D} (hx : RD K ρ H x d) : RDs K ρ H (xs.set k x) (ds.set k d) := by
  refine ⟨by simp [h.len], fun i y e a b => ?_⟩
  rw [List.getElem?_set] at a b
  by_cases hk : k = i
  · rw [if_pos hk] at a b
    split at a
    · rename_i h1
      split at b
      · cases a; cases b; exact hx
      · cases b
    · cases a
  · rw [if_neg hk] at a b
    exact h.at_ i y e a b
theorem CellOk.ext (r : Rel K ρ H S) (e : Ext ρ H ρ' H') {a : Addr} {c : Cell} (he : H' a = H a) (h : CellOk K ρ H a c) : CellOk K ρ' H' a c := by
  cases c with
  | lst ds =>
    obtain ⟨xs, h1, h2⟩ := h
    exact ⟨xs, he.trans h1, h2.ext r e⟩
  | frz ds =>
    obtain ⟨xs, o, h1, h2⟩ := h
    exact ⟨xs, o, he.trans h1, h2.ext r e⟩
  | dic ks ds =>
    obtain ⟨xs, h1, h0, h2⟩ := h
    exact ⟨xs, he.trans h1, h0, h2.ext r e⟩
  | dit ks ds =>
    obtain ⟨xs, h1, h0, h2⟩ := h
    exact ⟨xs, he.trans h1, h0, h2.ext r e⟩
  | tbl n q =>
    obtain ⟨h0, ps, h1, h2, h3⟩ := h
    refine ⟨h0, ps, he.trans h1, h2, fun pos cv hc => ?_⟩
    obtain ⟨c, e1, e2, e3⟩ := h3 pos cv hc
    exact ⟨c, e1, (fun hm => by rw [e.new _ hm e2] at e3; cases e3), e.keep _ _ e3 e2⟩
theorem IsL.new {p a : Addr} {o : HO} (hp : H p = none) (h : IsL H a) : IsL (upd H p o) a := by
  rcases h with ⟨xs, h⟩ | ⟨o', xs, h⟩
  · exact .inl ⟨xs, by rw [upd_ne (ne_of_none h hp)]; exact h⟩
  · exact .inr ⟨o', xs, by rw [upd_ne (ne_of_none h hp)]; exact h⟩
theorem ext_new {p : Addr} {o : HO} (hp : H p = none) : Ext ρ H ρ (upd H p o) := ⟨⟨[], by simp⟩, fun q h n => absurd h n, fun b u h _ => by rw [upd_ne (ne_of_none h hp)]; exact h, fun a _ h => h.new hp⟩
theorem Rel.notin (r : Rel K ρ H S) {p : Addr} (hp : H p = none) : p ∉ ρ := by
  intro hm
  obtain ⟨n, hn⟩ := List.getElem?_of_mem hm
  obtain ⟨c, _, hc⟩ := r.of hn
  cases c with
  | lst ds => obtain ⟨xs, e, _⟩ := hc; rw [hp] at e; cases e
  | frz ds => obtain ⟨xs, o, e, _⟩ := hc; rw [hp] at e; cases e
  | dic ks ds => obtain ⟨xs, e, _⟩ := hc; rw [hp] at e; cases e
  | dit ks ds => obtain ⟨xs, e, _⟩ := hc; rw [hp] at e; cases e
  | tbl n q => obtain ⟨_, xs, e, _⟩ := hc; rw [hp] at e; cases e
theorem Rel.newT (r : Rel K ρ H S) {p : Addr} {o : HO} (hp : H p = none) : Rel K ρ (upd H p o) S := by
  refine ⟨r.len, r.nd, fun n a c h1 h2 => (r.cell n a c h1 h2).ext r (ext_new hp) (upd_ne fun z => ?_)⟩
  rw [z] at h1
  exact r.notin hp (List.mem_of_getElem? h1)
theorem ext_newL {p : Addr} {o : HO} (hp : H p = none) : Ext ρ H (ρ ++ [p]) (upd H p o) := by
  refine ⟨⟨[p], rfl⟩, fun q h n => ?_, fun b u h _ => by rw [upd_ne (ne_of_none h hp)]; exact h, fun a _ h => h.new hp⟩
  rcases List.mem_append.mp h with h | h
  · exact absurd h n
  · rw [List.mem_singleton.mp h]; exact hp
theorem Rel.newL (r : Rel K ρ H S) {p : Addr} {xs : List V} {ds : List D} (hp : H p = none) (h : RDs K ρ H xs ds) : Rel K (ρ ++ [p]) (upd H p (.lst xs)) (S ++ [.lst ds]) := by
  have hn := r.notin hp
  have e : Ext ρ H (ρ ++ [p]) (upd H p (.lst xs)) := ext_newL hp
  refine ⟨by simp [r.len], ?_, fun n a c h1 h2 => ?_⟩
  · rw [List.nodup_append]
    refine ⟨r.nd, by simp, fun a ha b hb z => ?_⟩
    rw [List.mem_singleton] at hb
    rw [z, hb] at ha
    exact hn ha
  · by_cases hi : n < ρ.length
    · rw [List.getElem?_append_left hi] at h1
      rw [List.getElem?_append_left (by rw [← r.len]; exact hi)] at h2
      refine (r.cell n a c h1 h2).ext r e (upd_ne fun z => hn ?_)
      rw [← z]
      exact List.mem_of_getElem? h1
    · rw [List.getElem?_append_right (by omega)] at h1
      rw [List.getElem?_append_right (by rw [← r.len]; omega), ← r.len] at h2
      have e0 : n - ρ.length = 0 := by
        have := (List.getElem?_eq_some_iff.mp h1).1
        simp at this
        omega
      rw [e0] at h1 h2
      simp at h1 h2
      subst h1; subst h2
      exact ⟨xs, upd_same, h.ext r e⟩
theorem RDs.newV {p : Addr} {xs : List V} {ds : List D} (r : Rel K ρ H S) (hp : H p = none) (h : RDs K ρ H xs ds) : RD K ρ (upd H p (.lst xs)) (.ref p) (.vl ds) := by
  have e := ext_new (ρ := ρ) (o := .lst xs) hp
  have h2 := h.ext r e
  exact .vl ⟨upd_same, r.notin hp⟩ h2.len h2.at_
theorem IsL.put {p a : Addr} {ys : List V} (h : IsL H a) : IsL (upd H p (.lst ys)) a := by
  by_cases e : a = p
  · subst e
    exact .inl ⟨ys, upd_same⟩
  · rcases h with ⟨xs, h⟩ | ⟨o', xs, h⟩
    · exact .inl ⟨xs, by rw [upd_ne e]; exact h⟩
    · exact .inr ⟨o', xs, by rw [upd_ne e]; exact h⟩
theorem ext_mut {p : Addr} {xs : List V} (hp : p ∈ ρ) : Ext ρ H ρ (upd H p (.lst xs)) := ⟨⟨[], by simp⟩, fun q h n => absurd h n, fun b u h hb => by rw [upd_ne (fun z => hb (by rw [z]; exact hp))]; exact h, fun a _ h => h.put⟩
theorem ext_mutD {p : Addr} {o : HO} (hp : p ∈ ρ) (hd : ¬ IsL H p) : Ext ρ H ρ (upd H p o) := ⟨⟨[], by simp⟩, fun q h n => absurd h n, fun b u h hb => by rw [upd_ne (fun z => hb (by rw [z]; exact hp))]; exact h, fun a _ h => by
  by_cases e : a = p
  · subst e
    exact absurd h hd
  · rcases h with ⟨xs, h⟩ | ⟨o', xs, h⟩
    · exact .inl ⟨xs, by rw [upd_ne e]; exact h⟩
    · exact .inr ⟨o', xs, by rw [upd_ne e]; exact h⟩⟩
theorem Rel.mutL (r : Rel K ρ H S) {n : Nat} {p : Addr} {xs : List V} {ds : List D} (hp : ρ[n]? = some p) (h : RDs K ρ H xs ds) : Rel K ρ (upd H p (.lst xs)) (S.set n (.lst ds)) := by
  have e : Ext ρ H ρ (upd H p (.lst xs)) := ext_mut (List.mem_of_getElem? hp)
  refine ⟨by simp [r.len], r.nd, fun m a c h1 h2 => ?_⟩
  by_cases hm : n = m
  · subst hm
    rw [hp] at h1
    cases h1
    rw [List.getElem?_set_self (by rw [← r.len]; exact (List.getElem?_eq_some_iff.mp hp).1)] at h2
    cases h2
    exact ⟨xs, upd_same, h.ext r e⟩
  · rw [List.getElem?_set_ne hm] at h2
    refine (r.cell m a c h1 h2).ext r e (upd_ne fun z => hm ?_)
    rw [z] at h1
    exact (nodup_ix' r.nd hp h1)
where
  nodup_ix' {l : List Addr} (hN : l.Nodup) {i j : Nat} {x : Addr} (a : l[i]? = some x) (b : l[j]? = some x) : i = j := by
    obtain ⟨h1, e1⟩ := List.getElem?_eq_some_iff.mp a
    obtain ⟨h2, e2⟩ := List.getElem?_eq_some_iff.mp b
    exact (List.getElem_inj hN).mp (e1.trans e2.symm)
end
structure EnvR (K : PySem.W.Frag) (ρ : List Addr) (H : Hp) (σ : L2.St) (env : Env) : Prop where
  len : σ.length = env.length
  at_ : ∀ (i : Nat) d, env[i]? = some (some d) → ∃ v, σ[i]? = some (some v) ∧ RD K ρ H v d
section
variable {K : PySem.W.Frag} {ρ ρ' : List Addr} {H H' : Hp} {S S' : Sto} {σ : L2.St} {env : Env}
theorem EnvR.ext (r : Rel K ρ H S) (e : Ext ρ H ρ' H') (h : EnvR K ρ H σ env) : EnvR K ρ' H' σ env := ⟨h.len, fun i d q => let ⟨v, a, b⟩ := h.at_ i d q; ⟨v, a, b.ext r e⟩⟩
theorem EnvR.set {i : Nat} {v : V} {d : D} (h : EnvR K ρ H σ env) (hv : RD K ρ H v d) : EnvR K ρ H (σ.set i (some v)) (env.set i (some d)) := by
  refine ⟨by simp [h.len], fun j e q => ?_⟩
  by_cases hj : i = j
  · subst hj
    have hi : i < env.length := by
      have := (List.getElem?_eq_some_iff.mp q).1
      simpa using this
    rw [List.getElem?_set_self hi] at q
    cases q
    exact ⟨v, List.getElem?_set_self (by rw [h.len]; exact hi), hv⟩
  · rw [List.getElem?_set_ne hj] at q
    rw [List.getElem?_set_ne hj]
    exact h.at_ j e q
end
abbrev EF := Env → Sto → Option (D × Sto)
abbrev TF := Env → Sto → Option (Bool × Sto)
abbrev AF := Env → Sto → Option (List D × Sto)
def tE (K : PySem.W.Frag) (f : EF) : TE := fun σ H Q => ∃ ρ S env d S', Rel K ρ H S ∧ EnvR K ρ H σ env ∧ f env S = some (d, S') ∧
  ∀ ρ' H' v, Ext ρ H ρ' H' → Rel K ρ' H' S' → RD K ρ' H' v d → Q v H'
def tT (K : PySem.W.Frag) (f : TF) : TT := fun σ H Q => ∃ ρ S env b S', Rel K ρ H S ∧ EnvR K ρ H σ env ∧ f env S = some (b, S') ∧
  ∀ ρ' H', Ext ρ H ρ' H' → Rel K ρ' H' S' → Q b H'
def tA (K : PySem.W.Frag) (f : AF) : TA := fun σ H Q => ∃ ρ S env ds S', Rel K ρ H S ∧ EnvR K ρ H σ env ∧ f env S = some (ds, S') ∧
  ∀ ρ' H' vs, Ext ρ H ρ' H' → Rel K ρ' H' S' → RDs K ρ' H' vs ds → Q vs H'
theorem _root_.L2.PE.imp {X : Cx} {e : Expr} {t t' : TE} (h : PE X e t) (i : ∀ σ H Q, t' σ H Q → t σ H Q) : PE X e t' := ⟨fun pins s σ H Q I q => h.run pins s σ H Q I (i σ H Q q)⟩
theorem _root_.L2.PT.imp {X : Cx} {e : Expr} {t t' : TT} (h : PT X e t) (i : ∀ σ H Q, t' σ H Q → t σ H Q) : PT X e t' := ⟨fun pins s σ H Q I q => h.run pins s σ H Q I (i σ H Q q)⟩
theorem _root_.L2.PA.imp {X : Cx} {e : List Expr} {t t' : TA} (h : PA X e t) (i : ∀ σ H Q, t' σ H Q → t σ H Q) : PA X e t' := ⟨fun pos pins s σ H Q I q => h.run pos pins s σ H Q I (i σ H Q q)⟩
theorem _root_.L2.PS.imp {X : Cx} {e : Stmt} {t t' : TS} (h : PS X e t) (i : ∀ D σ H, t' D σ H → t D σ H) : PS X e t' := ⟨fun pins s σ H D I q => h.run pins s σ H D I (i D σ H q)⟩
theorem _root_.L2.PSs.imp {X : Cx} {e : List Stmt} {t t' : TS} (h : PSs X e t) (i : ∀ D σ H, t' D σ H → t D σ H) : PSs X e t' := ⟨fun pins s σ H D I q => h.run pins s σ H D I (i D σ H q)⟩
theorem run_e {K : PySem.W.Frag} {f : EF} {ρ : List Addr} {H : Hp} {S S' : Sto} {σ : L2.St} {env : Env} {d : D} {R : VK} (r : Rel K ρ H S) (en : EnvR K ρ H σ env) (hf : f env S = some (d, S'))
    (h : ∀ ρ' H' v, Ext ρ H ρ' H' → Rel K ρ' H' S' → RD K ρ' H' v d → EnvR K ρ' H' σ env → R v H') : tE K f σ H R :=
  ⟨ρ, S, env, d, S', r, en, hf, fun ρ' H' v e r' hv => h ρ' H' v e r' hv (en.ext r e)⟩
theorem run_t {K : PySem.W.Frag} {f : TF} {ρ : List Addr} {H : Hp} {S S' : Sto} {σ : L2.St} {env : Env} {b : Bool} {R : Bool → Hp → Prop} (r : Rel K ρ H S) (en : EnvR K ρ H σ env) (hf : f env S = some (b, S'))
    (h : ∀ ρ' H', Ext ρ H ρ' H' → Rel K ρ' H' S' → EnvR K ρ' H' σ env → R b H') : tT K f σ H R :=
  ⟨ρ, S, env, b, S', r, en, hf, fun ρ' H' e r' => h ρ' H' e r' (en.ext r e)⟩
theorem run_a {K : PySem.W.Frag} {f : AF} {ρ : List Addr} {H : Hp} {S S' : Sto} {σ : L2.St} {env : Env} {ds : List D} {R : List V → Hp → Prop} (r : Rel K ρ H S) (en : EnvR K ρ H σ env) (hf : f env S = some (ds, S'))
    (h : ∀ ρ' H' vs, Ext ρ H ρ' H' → Rel K ρ' H' S' → RDs K ρ' H' vs ds → EnvR K ρ' H' σ env → R vs H') : tA K f σ H R :=
  ⟨ρ, S, env, ds, S', r, en, hf, fun ρ' H' v e r' hv => h ρ' H' v e r' hv (en.ext r e)⟩
def eVar (i : Nat) : EF := fun env S => match env[i]? with
  | some (some d) => some (d, S)
  | _ => none
def eC (d : D) : EF := fun _ S => some (d, S)
section
variable {X : Cx} {e a b c : Expr} {fa fb fc : EF} {pos : Pos}
theorem l_var (i : Nat) {x : Str} (hN : X.N[i]? = some x := by rfl) (hv : Vis X.env.scope x := by first | exact Or.inl rfl | exact Or.inr (Or.inl rfl) | exact Or.inr (Or.inr rfl)) (hd : (x == ("__debug__" : Str)) = false := by decide)
    (hcd : (x == ("__classdict__" : Str)) = false := by decide) : PE X (.Name x pos) (tE X.K (eVar i)) := by
  refine (pe_var hN hv hd hcd).imp fun σ H Q h => ?_
  obtain ⟨ρ, S, env, d, S', r, en, hf, q⟩ := h
  unfold eVar at hf
  split at hf
  · rename_i d' he
    cases hf
    obtain ⟨v, h1, h2⟩ := en.at_ i _ he
    exact ⟨v, h1, q ρ H v (Ext.refl ρ H) r h2⟩
  · cases hf
theorem l_c {v : V} {d : D} (h : PE X e (tC v)) (hr : ∀ ρ H, RD X.K ρ H v d) : PE X e (tE X.K (eC d)) := h.imp fun σ H Q h => by
  obtain ⟨ρ, S, env, d', S', r, en, hf, q⟩ := h
  cases hf
  exact q ρ H v (Ext.refl ρ H) r (hr ρ H)
theorem l_int {i : Int} {j} : PE X (.Constant (.int i) j pos) (tE X.K (eC (.int i))) := l_c pe_int fun _ _ => .int i
theorem l_bl {i : Bool} {j} : PE X (.Constant (.bool i) j pos) (tE X.K (eC (.bl i))) := l_c pe_bl fun _ _ => .bl i
theorem l_non {j} : PE X (.Constant .none j pos) (tE X.K (eC .non)) := l_c pe_non fun _ _ => .non
theorem l_str {x : Str} {j} : PE X (.Constant (.str x) j pos) (tE X.K (eC (.str x))) := l_c pe_str fun _ _ => .str x
abbrev OF := D → D → Sto → Option (D × Sto)
def eBin (g : OF) (fa fb : EF) : EF := fun env S => match fa env S with
  | none => none
  | some (x, S1) => match fb env S1 with
    | none => none
    | some (y, S2) => g x y S2
def OkOp (K : PySem.W.Frag) (r : R2) (g : OF) : Prop := ∀ ρ H S S' x y d e z (Q : VK), Rel K ρ H S → RD K ρ H x d → RD K ρ H y e → g d e S = some (z, S') →
  (∀ ρ' H' v, Ext ρ H ρ' H' → Rel K ρ' H' S' → RD K ρ' H' v z → Q v H') → r x y H Q
theorem bin_imp {r : R2} {g : OF} (ho : OkOp X.K r g) (σ : L2.St) (H : Hp) (Q : VK) (h : tE X.K (eBin g fa fb) σ H Q) : tOp r (tE X.K fa) (tE X.K fb) σ H Q := by
  obtain ⟨ρ, S, env, d, S', r, en, hf, q⟩ := h
  unfold eBin at hf
  split at hf
  · cases hf
  · rename_i x S1 h1
    split at hf
    · cases hf
    · rename_i y S2 h2
      refine run_e r en h1 fun ρ1 H1 v1 e1 r1 hv1 en1 => run_e r1 en1 h2 fun ρ2 H2 v2 e2 r2 hv2 en2 => ?_
      exact ho ρ2 H2 S2 S' v1 v2 x y d Q r2 (hv1.ext r1 e2) hv2 hf fun ρ3 H3 v3 e3 r3 hv3 => q ρ3 H3 v3 ((e1.trans e2).trans e3) r3 hv3
theorem l_bin {op : Operator} {r : R2} {g : OF} (hop : OpR X (binaryOp op) r) (ho : OkOp X.K r g) (ha : PE X a (tE X.K fa)) (hb : PE X b (tE X.K fb)) : PE X (.BinOp a op b pos) (tE X.K (eBin g fa fb)) :=
  (pe_op hop ha hb).imp (bin_imp ho)
theorem l_cmp {op : CmpOp} {r : R2} {g : OF} (hop : OpR X (compareOp op) r) (ho : OkOp X.K r g) (ha : PE X a (tE X.K fa)) (hb : PE X b (tE X.K fb)) (hm : behindInMarks op b = false) : PE X (.Compare a [op] [b] pos) (tE X.K (eBin g fa fb)) :=
  (pe_cmpR hop ha hb hm).imp (bin_imp ho)
def truB (f : EF) : TF := fun env S => match f env S with
  | some (.bl k, S') => some (k, S')
  | _ => none
theorem truB_imp {f : EF} (σ : L2.St) (H : Hp) (Q : Bool → Hp → Prop) (h : tT X.K (truB f) σ H Q) : tE X.K f σ H fun x H' => ∃ k, x = .bl k ∧ Q k H' := by
  obtain ⟨ρ, S, env, b, S', r, en, hf, q⟩ := h
  unfold truB at hf
  split at hf
  · rename_i k S1 h1
    cases hf
    refine run_e r en h1 fun ρ1 H1 v1 e1 r1 hv1 en1 => ?_
    cases hv1
    exact ⟨_, rfl, q ρ1 H1 e1 r1⟩
  · cases hf
theorem lt_cmp {op : CmpOp} {r : R2} {g : OF} (hop : OpR X (compareOp op) r) (ho : OkOp X.K r g) (ha : PE X a (tE X.K fa)) (hb : PE X b (tE X.K fb)) (hm : behindInMarks op b = false) : PT X (.Compare a [op] [b] pos) (tT X.K (truB (eBin g fa fb))) := by
  refine (pt_cmpR hop ha hb hm).imp fun σ H Q h => ?_
  have h2 := truB_imp σ H Q h
  exact bin_imp ho σ H _ h2
end
end Lv
namespace Lv
open PySem PySem.Spec PyProof.Rows L2
def mapO {α β : Type} (f : α → Option β) : List α → Option (List β)
  | [] => some []
  | x :: r => match f x with
    | none => none
    | some y => match mapO f r with
      | none => none
      | some ys => some (y :: ys)
def toP : Nat → Sto → D → Option PyData
  | 0, _, _ => none
  | _ + 1, _, .ty _ => none
  | _ + 1, _, .kl _ => none
  | _ + 1, _, .dv _ _ => none
  | _ + 1, _, .gl _ => none
  | _ + 1, _, .exc _ _ => none
  | _ + 1, _, .lam _ _ _ _ _ _ => none
  | n + 1, S, .vl ds => match mapO (toP n S) ds with
    | some ps => some (.list ps)
    | none => none
  | _ + 1, _, .non => some .none
  | _ + 1, _, .bl b => some (.bool b)
  | _ + 1, _, .int i => some (.int i)
  | _ + 1, _, .str x => some (.str x)
  | n + 1, S, .tup ds => match mapO (toP n S) ds with
    | some ps => some (.tuple ps)
    | none => none
  | n + 1, S, .ref k => match S[k]? with
    | none => none
    | some c => match c.its with
      | none => none
      | some ds => match mapO (toP n S) ds with
        | some ps => some (.list ps)
        | none => none
theorem mapO_cons {α β : Type} {f : α → Option β} {x : α} {r : List α} {zs : List β} (h : mapO f (x :: r) = some zs) : ∃ y ys, f x = some y ∧ mapO f r = some ys ∧ zs = y :: ys := by
  unfold mapO at h
  split at h
  · cases h
  · rename_i y hy
    split at h
    · cases h
    · rename_i ys hys
      cases h
      exact ⟨y, ys, hy, hys, rfl⟩
section
variable {K : PySem.W.Frag} {ρ ρ' : List Addr} {H H' : Hp} {S S' : Sto}
theorem Rel.seq (r : Rel K ρ H S) {k : Nat} {a : Addr} {c : Cell} (h : ρ[k]? = some a) (hc : S[k]? = some c) {ds : List D} (hi : c.its = some ds) : ∃ xs, SqL K H a xs ∧ RDs K ρ H xs ds := by
  have q := r.cell k a c h hc
  cases c with
  | lst ds => cases hi; obtain ⟨xs, e, q⟩ := q; exact ⟨xs, .inl (.inl e), q⟩
  | frz ds => cases hi; obtain ⟨xs, o, e, q⟩ := q; exact ⟨xs, .inl (.inr ⟨o, e⟩), q⟩
  | dic ks ds => cases hi
  | dit ks ds => cases hi
  | tbl n q => cases hi
theorem all_dp {f : D → Option PyData} (ih : ∀ v d p, RD K ρ H v d → f d = some p → Dp K H v p) : ∀ {xs : List V} {ds : List D} {ps : List PyData}, RDs K ρ H xs ds → mapO f ds = some ps → DpAll K H xs ps
  | [], [], ps, _, h => by
    cases h
    exact .nil
  | [], _ :: _, _, q, _ => by have := q.len; simp at this
  | _ :: _, [], _, q, _ => by have := q.len; simp at this
  | x :: xs, d :: ds, ps, q, h => by
    obtain ⟨y, ys, h1, h2, rfl⟩ := mapO_cons h
    refine .cons (ih x d y (q.at_ 0 x d rfl rfl) h1) (all_dp ih ⟨by have := q.len; simpa using this, fun i x' d' a b => q.at_ (i + 1) x' d' a b⟩ h2)
theorem dp_of (r : Rel K ρ H S) : ∀ (n : Nat) (v : V) (d : D) (p : PyData), RD K ρ H v d → toP n S d = some p → Dp K H v p
  | 0, _, _, _, _, h => by cases h
  | n + 1, v, d, p, hv, h => by
    cases hv with
    | ty n => cases h
    | dv hs hn hk hl ha => cases h
    | gl h0 => cases h
    | exc _ _ _ _ _ _ _ => cases h
    | excN _ _ _ => cases h
    | lam _ _ _ _ _ => cases h
    | kl hs hl ha => cases h
    | vl hs hl ha =>
      unfold toP at h
      split at h
      · rename_i ps hp
        cases h
        exact .lst hs.sq (all_dp (dp_of r n) ⟨hl, ha⟩ hp)
      · cases h
    | non => cases h; exact .non
    | bl b => cases h; exact .bl b
    | int i => cases h; exact .int i
    | str x => cases h; exact .str x
    | tup hs hl ha =>
      unfold toP at h
      split at h
      · rename_i ps hp
        cases h
        exact .tup hs (all_dp (dp_of r n) ⟨hl, ha⟩ hp)
      · cases h
    | ref hr hkL =>
      unfold toP at h
      split at h
      · cases h
      · rename_i c hc
        split at h
        · cases h
        · rename_i ds hi
          split at h
          · rename_i ps hp
            cases h
            obtain ⟨xs, h1, h2⟩ := r.seq hr hc hi
            exact .lst h1 (all_dp (dp_of r n) h2 hp)
          · cases h
end
mutual
def sz : PyData → Nat
  | .none => 4
  | .bool _ => 5
  | .int _ => 1000
  | .str x => 12 * x.length + 2
  | .list xs => szAll xs + 4
  | .tuple xs => szAll xs + 4
  | .dict _ => 0
def szAll : List PyData → Nat
  | [] => 0
  | x :: xs => sz x + 2 + szAll xs
end
def gArith (f : Int → Int → Option Int) : OF := fun x y S => match x, y with
  | .int i, .int j => match f i j with
    | some k => some (.int k, S)
    | none => none
  | _, _ => none
def gCmpI (f : Int → Int → Bool) : OF := fun x y S => match x, y with
  | .int i, .int j => some (.bl (f i j), S)
  | _, _ => none
section
variable {K : PySem.W.Frag}
theorem ok_arith {f : Int → Int → Option Int} {C : Int → Int → Prop} {g : Int → Int → Int} (h : ∀ i j k, f i j = some k → C i j ∧ k = g i j) : OkOp K (rI C fun i j => .int (g i j)) (gArith f) := by
  intro ρ H S S' x y d e z Q r hx hy hg q
  unfold gArith at hg
  split at hg
  · rename_i i j
    split at hg
    · rename_i k hk
      cases hg
      cases hx; cases hy
      obtain ⟨hc, rfl⟩ := h _ _ _ hk
      exact ⟨_, _, rfl, rfl, hc, q ρ H _ (Ext.refl ρ H) r (.int _)⟩
    · cases hg
  · cases hg
theorem ok_arith0 {f : Int → Int → Option Int} {g : Int → Int → Int} (h : ∀ i j k, f i j = some k → k = g i j) : OkOp K (rI0 fun i j => .int (g i j)) (gArith f) := by
  intro ρ H S S' x y d e z Q r hx hy hg q
  unfold gArith at hg
  split at hg
  · rename_i i j
    split at hg
    · rename_i k hk
      cases hg
      cases hx; cases hy
      obtain rfl := h _ _ _ hk
      exact ⟨_, _, rfl, rfl, q ρ H _ (Ext.refl ρ H) r (.int _)⟩
    · cases hg
  · cases hg
theorem ok_cmpI {f : Int → Int → Bool} : OkOp K (rI0 fun i j => .bl (f i j)) (gCmpI f) := by
  intro ρ H S S' x y d e z Q r hx hy hg q
  unfold gCmpI at hg
  split at hg
  · cases hg
    cases hx; cases hy
    exact ⟨_, _, rfl, rfl, q ρ H _ (Ext.refl ρ H) r (.bl _)⟩
  · cases hg
theorem ok_or {r r' : R2} {g g' : OF} (h : OkOp K r g) (h' : OkOp K r' g') : OkOp K (fun x y H Q => r x y H Q ∨ r' x y H Q) (fun x y S => match g x y S with
    | some z => some z
    | none => g' x y S) := by
  intro ρ H S S' x y d e z Q rl hx hy hg q
  dsimp only at hg
  split at hg
  · rename_i z' hz
    cases hg
    exact .inl (h ρ H S S' x y d e z Q rl hx hy hz q)
  · exact .inr (h' ρ H S S' x y d e z Q rl hx hy hg q)
end
def lim : Nat := 10000000
theorem lim_le {n : Nat} (h : n ≤ lim) : n ≤ sizeLine := Nat.le_trans h (by decide)
theorem lim_lt {n : Nat} (h : n ≤ lim) : n < sizeLine := Nat.lt_of_le_of_lt h (by decide)
def liveOf (S : Sto) : D → Option (List D)
  | .vl ds => some ds
  | .ref k => match S[k]? with
    | some (.lst ds) => some ds
    | _ => none
  | _ => none
theorem live_rd {K : PySem.W.Frag} {ρ : List Addr} {H : Hp} {S : Sto} (r : Rel K ρ H S) {y : V} {e : D} {ds : List D} (hy : RD K ρ H y e) (h : liveOf S e = some ds) : ∃ p xs, y = .ref p ∧ H p = some (.lst xs) ∧ RDs K ρ H xs ds := by
  cases hy with
  | vl hs hl ha => cases h; exact ⟨_, _, rfl, hs.1, hl, ha⟩
  | ref hr hkL =>
    simp only [liveOf] at h
    split at h
    · rename_i ds' hc
      cases h
      obtain ⟨xs, h1, h2⟩ := r.cell _ _ _ hr hc
      exact ⟨_, xs, rfl, h1, h2⟩
    · cases h
  | _ => cases h
def mkV (rm : Bool) (ds : List D) (S : Sto) : D × Sto := if rm then (.ref S.length, S ++ [.lst ds]) else (.vl ds, S)
theorem mkV_ok {K : PySem.W.Frag} {ρ : List Addr} {H : Hp} {S S' : Sto} {rm : Bool} {ds : List D} {z : D} {xs : List V} {p : Addr} {Q : VK} (r : Rel K ρ H S) (h : RDs K ρ H xs ds) (hm : mkV rm ds S = (z, S')) (hp : H p = none)
    (q : ∀ ρ' H' v, Ext ρ H ρ' H' → Rel K ρ' H' S' → RD K ρ' H' v z → Q v H') : Q (.ref p) (upd H p (.lst xs)) := by
  cases rm with
  | false =>
    obtain ⟨rfl, rfl⟩ := Prod.mk.inj (show (D.vl ds, S) = (z, S') from hm)
    exact q ρ _ _ (ext_new hp) (r.newT hp) (h.newV r hp)
  | true =>
    obtain ⟨rfl, rfl⟩ := Prod.mk.inj (show (D.ref S.length, S ++ [Cell.lst ds]) = (z, S') from hm)
    refine q _ _ _ (ext_newL hp) (r.newL hp h) (.ref ?_ (.lst upd_same))
    rw [← r.len]
    simp
def gAdd (rm : Bool) : OF := fun x y S => match x, y with
  | .int i, .int j => some (.int (i + j), S)
  | .str i, .str j => if i.length + j.length ≤ lim then some (.str (i ++ j), S) else none
  | .tup ds, .tup es => if ds.length + es.length ≤ lim then some (.tup (ds ++ es), S) else none
  | x, y => match liveOf S x, liveOf S y with
    | some ds, some es => if ds.length + es.length ≤ lim then some (mkV rm (ds ++ es) S) else none
    | _, _ => none
def rAdd (K : PySem.W.Frag) : R2 := fun x y H Q => ((∃ i j, x = .int i ∧ y = .int j ∧ Q (.int (i + j)) H) ∨ (∃ i j, x = .str i ∧ y = .str j ∧ i.length + j.length ≤ sizeLine ∧ Q (.str (i ++ j)) H)) ∨ (rCatA K x y H Q ∨ rCat x y H Q)
theorem op_addL {X : Cx} : OpR X (binaryOp .Add) (rAdd X.K) := OpR.or (OpR.or op_add op_add_str) (OpR.or op_catA op_cat)
theorem rds_ne {K : PySem.W.Frag} {ρ : List Addr} {H : Hp} {xs : List V} {ds : List D} (h : RDs K ρ H xs ds) (e : xs = []) : ds = [] := by
  have := h.len
  rw [e] at this
  exact List.eq_nil_of_length_eq_zero this.symm
theorem ok_add {K : PySem.W.Frag} {rm : Bool} : OkOp K (rAdd K) (gAdd rm) := by
  intro ρ H S S' x y d e z Q r hx hy hg q
  unfold gAdd at hg
  split at hg
  · cases hg
    cases hx; cases hy
    exact .inl (.inl ⟨_, _, rfl, rfl, q ρ H _ (Ext.refl ρ H) r (.int _)⟩)
  · split at hg
    · rename_i hl
      cases hg
      cases hx; cases hy
      exact .inl (.inr ⟨_, _, rfl, rfl, lim_le hl, q ρ H _ (Ext.refl ρ H) r (.str _)⟩)
    · cases hg
  · split at hg
    · rename_i ds es hl
      cases hg
      cases hx with
      | tup hs hlen ha =>
        rename_i a xs
        cases hy with
        | tup hs' hlen' ha' =>
          rename_i b ys
          have R1 : RDs K ρ H xs ds := ⟨hlen, ha⟩
          have R2 : RDs K ρ H ys es := ⟨hlen', ha'⟩
          refine .inr (.inl ⟨a, b, xs, ys, rfl, rfl, hs, hs', lim_le (by rw [hlen, hlen']; exact hl), fun e1 => ?_, fun _ e2 => ?_, fun _ _ p hp => ?_⟩)
          · refine q ρ H _ (Ext.refl ρ H) r ?_
            rw [rds_ne R1 e1]
            exact .tup hs' hlen' ha'
          · refine q ρ H _ (Ext.refl ρ H) r ?_
            rw [rds_ne R2 e2, List.append_nil]
            exact .tup hs hlen ha
          · have e := ext_new (ρ := ρ) (o := .tup (xs ++ ys)) hp
            have RR := (R1.append R2).ext r e
            exact q ρ _ _ e (r.newT hp) (.tup (SqT.of upd_same) RR.len RR.at_)
    · cases hg
  · split at hg
    · rename_i ds es h1 h2
      split at hg
      · rename_i hl
        obtain ⟨a, xs, rfl, k1, k2⟩ := live_rd r hx h1
        obtain ⟨b, ys, rfl, k3, k4⟩ := live_rd r hy h2
        exact .inr (.inr ⟨a, b, xs, ys, rfl, rfl, k1, k3, lim_le (by rw [k2.len, k4.len]; exact hl), fun p hp => mkV_ok r (k2.append k4) (Option.some.inj hg) hp q⟩)
      · cases hg
    · cases hg
def fMul (i j : Int) : Option Int := if i.natAbs.log2 + j.natAbs.log2 < 1000000 then some (i * j) else none
def fMod (i j : Int) : Option Int := if 0 < j then some (i % j) else none
def fDiv (i j : Int) : Option Int := if 0 < j ∧ j.natAbs.log2 < 9000 then some (i / j) else none
def fPow (i j : Int) : Option Int := if 0 ≤ j ∧ (Builtin.Int.intBits i : Int) * j ≤ 1000000 then some (i ^ j.toNat) else none
def CPowW (i j : Int) : Prop := 0 ≤ j ∧ (Builtin.Int.intBits i : Int) * j ≤ 2 ^ 27
section
variable {X : Cx} {K : PySem.W.Frag}
theorem op_powW : OpR X (binaryOp .Pow) (rI CPowW fun i j => .int (i ^ j.toNat)) := opI fun _ _ _ _ _ _ _ hc q => pow_int hc.1 hc.2 q
theorem ok_sub : OkOp K (rI0 fun i j => .int (i - j)) (gArith fun i j => some (i - j)) := ok_arith0 fun i j k h => (Option.some.inj h).symm
theorem ok_mul : OkOp K (rI CMulW fun i j => .int (i * j)) (gArith fMul) := ok_arith fun i j k h => by
  unfold fMul at h
  split at h
  · rename_i hc; cases h; exact ⟨hc, rfl⟩
  · cases h
theorem ok_mod : OkOp K (rI (fun _ j => 0 < j) fun i j => .int (i % j)) (gArith fMod) := ok_arith fun i j k h => by
  unfold fMod at h
  split at h
  · rename_i hc; cases h; exact ⟨hc, rfl⟩
  · cases h
theorem ok_div : OkOp K (rI CDivW fun i j => .int (i / j)) (gArith fDiv) := ok_arith fun i j k h => by
  unfold fDiv at h
  split at h
  · rename_i hc; cases h; exact ⟨hc, rfl⟩
  · cases h
theorem ok_pow : OkOp K (rI CPowW fun i j => .int (i ^ j.toNat)) (gArith fPow) := ok_arith fun i j k h => by
  unfold fPow at h
  split at h
  · rename_i hc; cases h; exact ⟨⟨hc.1, Int.le_trans hc.2 (by decide)⟩, rfl⟩
  · cases h
end
def gEqd (neg : Bool) : OF := fun x y S => match toP 60 S x, toP 60 S y with
  | some p, some q => if SeqAt.shaped p && SeqAt.shaped q then some (.bl (if neg then !PyData.eqv p q else PyData.eqv p q), S) else none
  | _, _ => none
def gEqv (neg : Bool) : OF := fun x y S => match x, y with
  | .str a, .str b => some (.bl (if neg then !decide (a = b) else decide (a = b)), S)
  | _, _ => gEqd neg x y S
def rEqA (K : PySem.W.Frag) : R2 := fun x y H Q => rEq x y H Q ∨ rEqD K x y H Q
def rNeA (K : PySem.W.Frag) : R2 := fun x y H Q => rNe x y H Q ∨ rNeD K x y H Q
section
variable {X : Cx} {K : PySem.W.Frag}
theorem op_eqA (hu : X.A.units + 64 < cLine) : OpR X (compareOp .Eq) (rEqA X.K) := OpR.or op_eq (op_eqD hu)
theorem op_neA (hu : X.A.units + 64 < cLine) : OpR X (compareOp .NotEq) (rNeA X.K) := OpR.or op_ne (op_neD hu)
theorem dec_strV {a b : Str} : decide (V.str a = V.str b) = decide (a = b) := by
  rw [Bool.eq_iff_iff]
  simp
theorem ok_eqd : OkOp K (rEqD K) (gEqd false) := by
  intro ρ H S S' x y d e z Q r hx hy hg q
  unfold gEqd at hg
  split at hg
  · rename_i p p' h1 h2
    split at hg
    · rename_i hs
      cases hg
      rw [Bool.and_eq_true] at hs
      exact ⟨p, p', dp_of r _ x d p hx h1, dp_of r _ y e p' hy h2, hs.1, hs.2, q ρ H _ (Ext.refl ρ H) r (.bl _)⟩
    · cases hg
  · cases hg
theorem ok_ned : OkOp K (rNeD K) (gEqd true) := by
  intro ρ H S S' x y d e z Q r hx hy hg q
  unfold gEqd at hg
  split at hg
  · rename_i p p' h1 h2
    split at hg
    · rename_i hs
      cases hg
      rw [Bool.and_eq_true] at hs
      exact ⟨p, p', dp_of r _ x d p hx h1, dp_of r _ y e p' hy h2, hs.1, hs.2, q ρ H _ (Ext.refl ρ H) r (.bl _)⟩
    · cases hg
  · cases hg
theorem ok_eqv : OkOp K (rEqA K) (gEqv false) := by
  intro ρ H S S' x y d e z Q r hx hy hg q
  unfold gEqv at hg
  split at hg
  · rename_i a b
    cases hx; cases hy; cases hg
    refine .inl ⟨rfl, ?_⟩
    rw [dec_strV]
    exact q ρ H _ (Ext.refl ρ H) r (.bl _)
  · exact .inr (ok_eqd ρ H S S' x y d e z Q r hx hy hg q)
theorem ok_nev : OkOp K (rNeA K) (gEqv true) := by
  intro ρ H S S' x y d e z Q r hx hy hg q
  unfold gEqv at hg
  split at hg
  · rename_i a b
    cases hx; cases hy; cases hg
    refine .inl ⟨rfl, ?_⟩
    rw [dec_strV]
    exact q ρ H _ (Ext.refl ρ H) r (.bl _)
  · exact .inr (ok_ned ρ H S S' x y d e z Q r hx hy hg q)
end
def isNon : D → Bool
  | .non => true
  | _ => false
def gIsN (neg : Bool) : OF := fun x y S => match y with
  | .non => some (.bl (if neg then !isNon x else isNon x), S)
  | _ => none
section
variable {X : Cx} {K : PySem.W.Frag}
end
def flatD : D → Bool
  | .non | .bl _ | .int _ | .str _ => true
  | _ => false
def eqD : D → D → Bool
  | .non, .non => true
  | .bl a, .bl b => a == b
  | .bl a, .int b => (if a then 1 else 0) == b
  | .int a, .bl b => a == (if b then 1 else 0)
  | .int a, .int b => a == b
  | .str a, .str b => a == b
  | _, _ => false
def itemsOf (S : Sto) : D → Option (List D)
  | .tup ds => some ds
  | .kl ds => some ds
  | .vl ds => some ds
  | .ref k => match S[k]? with
    | some c => c.its
    | none => none
  | _ => none
def gIn (neg : Bool) : OF := fun x y S => match itemsOf S y with
  | some ds => if flatD x && ds.all flatD then some (.bl (if neg then !(ds.any fun d => eqD d x) else ds.any fun d => eqD d x), S) else none
  | none => none
section
variable {X : Cx} {K : PySem.W.Frag} {ρ : List Addr} {H : Hp} {S : Sto}
theorem flat_rd {x : V} {d : D} (h : RD K ρ H x d) : flatV x = flatD d := by cases h <;> rfl
theorem eq_rd {x y : V} {d e : D} (h : RD K ρ H x d) (h' : RD K ρ H y e) : eqV x y = eqD d e := by
  cases h <;> cases h' <;> rfl
theorem all_rd : ∀ {xs : List V} {ds : List D}, RDs K ρ H xs ds → xs.all flatV = ds.all flatD
  | [], [], _ => rfl
  | [], _ :: _, q => by have := q.len; simp at this
  | _ :: _, [], q => by have := q.len; simp at this
  | x :: xs, d :: ds, q => by
    rw [List.all_cons, List.all_cons, flat_rd (q.at_ 0 x d rfl rfl), all_rd (xs := xs) (ds := ds) ⟨by have := q.len; simpa using this, fun i x' d' a b => q.at_ (i + 1) x' d' a b⟩]
theorem any_rd {y : V} {e : D} (hy : RD K ρ H y e) : ∀ {xs : List V} {ds : List D}, RDs K ρ H xs ds → (xs.any fun z => eqV z y) = ds.any fun z => eqD z e
  | [], [], _ => rfl
  | [], _ :: _, q => by have := q.len; simp at this
  | _ :: _, [], q => by have := q.len; simp at this
  | x :: xs, d :: ds, q => by
    rw [List.any_cons, List.any_cons, eq_rd (q.at_ 0 x d rfl rfl) hy, any_rd hy (xs := xs) (ds := ds) ⟨by have := q.len; simpa using this, fun i x' d' a b => q.at_ (i + 1) x' d' a b⟩]
theorem items_rd (r : Rel K ρ H S) {y : V} {e : D} {ds : List D} (hy : RD K ρ H y e) (h : itemsOf S e = some ds) : ∃ p xs, y = .ref p ∧ (SqL K H p xs ∨ SqT K H p xs) ∧ RDs K ρ H xs ds := by
  cases hy with
  | tup hs hl ha => cases h; exact ⟨_, _, rfl, .inr hs, hl, ha⟩
  | kl hs hl ha => cases h; exact ⟨_, _, rfl, .inl (hs _), hl, ha⟩
  | vl hs hl ha => cases h; exact ⟨_, _, rfl, .inl hs.sq, hl, ha⟩
  | ref hr hkL =>
    simp only [itemsOf] at h
    split at h
    · rename_i c hc
      obtain ⟨xs, h1, h2⟩ := r.seq hr hc (ds := ds) h
      exact ⟨_, xs, rfl, .inl h1, h2⟩
    · cases h
  | _ => cases h
theorem ok_in (neg : Bool) : OkOp K (rIn K neg) (gIn neg) := by
  intro ρ H S S' x y d e z Q r hx hy hg q
  unfold gIn at hg
  split at hg
  · rename_i ds hd
    split at hg
    · rename_i hf
      cases hg
      rw [Bool.and_eq_true] at hf
      obtain ⟨p, xs, rfl, hs, hr⟩ := items_rd r hy hd
      refine ⟨p, xs, rfl, hs, (flat_rd hx).trans hf.1, (all_rd hr).trans hf.2, ?_⟩
      unfold inV
      rw [any_rd hx hr]
      exact q ρ H _ (Ext.refl ρ H) r (.bl _)
    · cases hg
  · cases hg
end
end Lv
namespace Lv
open PySem PySem.Spec PyProof.Rows L2
def aNil : AF := fun _ S => some ([], S)
def aCons (f : EF) (g : AF) : AF := fun env S => match f env S with
  | none => none
  | some (d, S1) => match g env S1 with
    | none => none
    | some (ds, S2) => some (d :: ds, S2)
abbrev CF := List D → Sto → Option (D × Sto)
def eCall (g : CF) (fa : AF) : EF := fun env S => match fa env S with
  | none => none
  | some (ds, S1) => g ds S1
def OkCall (K : PySem.W.Frag) (r : List V → Hp → VK → Prop) (g : CF) : Prop := ∀ ρ H S S' vs ds z (Q : VK), Rel K ρ H S → RDs K ρ H vs ds → g ds S = some (z, S') →
  (∀ ρ' H' v, Ext ρ H ρ' H' → Rel K ρ' H' S' → RD K ρ' H' v z → Q v H') → r vs H Q
section
variable {X : Cx} {e a b : Expr} {es : List Expr} {fe fa fb : EF} {fs : AF} {pos p apos : Pos}
theorem la_nil : PA X [] (tA X.K aNil) := pa_nil.imp fun σ H Q h => by
  obtain ⟨ρ, S, env, ds, S', r, en, hf, q⟩ := h
  cases hf
  exact q ρ H [] (Ext.refl ρ H) r RDs.nil
theorem cons_imp (σ : L2.St) (H : Hp) (Q : List V → Hp → Prop) (h : tA X.K (aCons fe fs) σ H Q) : tCons (tE X.K fe) (tA X.K fs) σ H Q := by
  obtain ⟨ρ, S, env, ds, S', r, en, hf, q⟩ := h
  unfold aCons at hf
  split at hf
  · cases hf
  · rename_i d S1 h1
    split at hf
    · cases hf
    · rename_i ds' S2 h2
      cases hf
      refine run_e r en h1 fun ρ1 H1 v1 e1 r1 hv1 en1 => run_a r1 en1 h2 fun ρ2 H2 vs2 e2 r2 hv2 en2 => ?_
      exact q ρ2 H2 _ (e1.trans e2) r2 (.cons (hv1.ext r1 e2) hv2)
theorem la_cons (ha : PE X e (tE X.K fe)) (hr : PA X es (tA X.K fs)) (hs : starEach (e :: es) X.env = (false, eval e X.env) :: starEach es X.env := by rfl) : PA X (e :: es) (tA X.K (aCons fe fs)) :=
  (pa_cons ha hr hs).imp cons_imp
theorem call_imp {r : List V → Hp → VK → Prop} {g : CF} (ho : OkCall X.K r g) (σ : L2.St) (H : Hp) (Q : VK) (h : tE X.K (eCall g fs) σ H Q) : tA X.K fs σ H fun vs H1 => r vs H1 Q := by
  obtain ⟨ρ, S, env, d, S', r1, en, hf, q⟩ := h
  unfold eCall at hf
  split at hf
  · cases hf
  · rename_i ds S1 h1
    refine run_a r1 en h1 fun ρ1 H1 vs e1 r2 hv en1 => ?_
    exact ho ρ1 H1 S1 S' vs ds d Q r2 hv hf fun ρ2 H2 v e2 r3 hv2 => q ρ2 H2 v (e1.trans e2) r3 hv2
theorem l_callB {id : String} {x : Str} {r : List V → Hp → VK → Prop} {g : CF} (hc : CallR X (.builtin id) r) (ho : OkCall X.K r g) (hg : Gl X x) (hm : X.mg x = none) (hv : bootBuiltins x = some (.builtin id)) (ha : PA X (e :: es) (tA X.K fs)) (hn : x ≠ "__name__" := by decide) (hdb : (x == ("__debug__" : Str)) = false := by decide)
    (he : starEach (e :: es) X.env = (false, eval e X.env) :: starEach es X.env := by rfl) (hpl : (backTo pos (starEach es X.env)).any (·.1) = false := by rfl) : PE X (.Call (.Name x p) (e :: es) [] pos) (tE X.K (eCall g fs)) :=
  (pe_callB hc hg hm hv ha hn hdb he hpl).imp (call_imp ho)
theorem l_callTy {id : String} {x : Str} {r : List V → Hp → VK → Prop} {g : CF} (hc : CallR X (.type id) r) (ho : OkCall X.K r g) (hg : Gl X x) (hm : X.mg x = none) (hv : bootBuiltins x = some (.type id)) (ha : PA X (e :: es) (tA X.K fs)) (hn : x ≠ "__name__" := by decide) (hdb : (x == ("__debug__" : Str)) = false := by decide)
    (he : starEach (e :: es) X.env = (false, eval e X.env) :: starEach es X.env := by rfl) (hpl : (backTo pos (starEach es X.env)).any (·.1) = false := by rfl) : PE X (.Call (.Name x p) (e :: es) [] pos) (tE X.K (eCall g fs)) :=
  (pe_callTy hc hg hm hv ha hn hdb he hpl).imp (call_imp ho)
theorem l_ty {n : String} {x : Str} (hg : Gl X x) (hm : X.mg x = none) (hv : bootBuiltins x = some (.type n)) (hn : x ≠ "__name__" := by decide) (hd : (x == ("__debug__" : Str)) = false := by decide) : PE X (.Name x pos) (tE X.K (eC (.ty n))) :=
  l_c (pe_bltn hg hm hv (v := .ty n) rfl hn hd) fun _ _ => .ty n
def cTup : CF := fun ds S => if ds.length ≤ lim then some (.tup ds, S) else none
def cLst (rm : Bool) : CF := fun ds S => if ds.length ≤ lim then some (mkV rm ds S) else none
theorem l_tup {x1} (h : PA X es (tA X.K fs)) : PE X (.Tuple es x1 pos) (tE X.K (eCall cTup fs)) := (pe_tup h).imp fun σ H Q q => call_imp (r := fun xs H1 Q => xs.length ≤ sizeLine ∧ ∀ p, H1 p = none → Q (.ref p) (upd H1 p (.tup xs))) (fun ρ H S S' vs ds z Q r hv hg q => by
  unfold cTup at hg
  split at hg
  · rename_i hl
    cases hg
    refine ⟨lim_le (by rw [hv.len]; exact hl), fun p hp => ?_⟩
    have e := ext_new (ρ := ρ) (o := .tup vs) hp
    have hv2 := hv.ext r e
    exact q ρ _ _ e (r.newT hp) (.tup (SqT.of upd_same) hv2.len hv2.at_)
  · cases hg) σ H Q q
theorem l_lst {rm : Bool} (h : PA X es (tA X.K fs)) : PE X (.List es pos) (tE X.K (eCall (cLst rm) fs)) := (pe_lst h).imp fun σ H Q q => call_imp (r := fun xs H1 Q => xs.length ≤ sizeLine ∧ ∀ p, H1 p = none → Q (.ref p) (upd H1 p (.lst xs))) (fun ρ H S S' vs ds z Q r hv hg q => by
  unfold cLst at hg
  split at hg
  · rename_i hl
    exact ⟨lim_le (by rw [hv.len]; exact hl), fun p hp => mkV_ok r hv (Option.some.inj hg) hp q⟩
  · cases hg) σ H Q q
end
section
variable {X : Cx} {K : PySem.W.Frag} {ρ : List Addr} {H : Hp} {S : Sto}
theorem rds1 {vs : List V} {d : D} (h : RDs K ρ H vs [d]) : ∃ v, vs = [v] ∧ RD K ρ H v d := by
  match vs, h.len with
  | [v], _ => exact ⟨v, rfl, h.at_ 0 v d rfl rfl⟩
theorem rds2 {vs : List V} {d e : D} (h : RDs K ρ H vs [d, e]) : ∃ v u, vs = [v, u] ∧ RD K ρ H v d ∧ RD K ρ H u e := by
  match vs, h.len with
  | [v, u], _ => exact ⟨v, u, rfl, h.at_ 0 v d rfl rfl, h.at_ 1 u e rfl rfl⟩
def cLen : CF := fun ds S => match ds with
  | [.str x] => if x.length ≤ lim then some (.int x.length, S) else none
  | [d] => match itemsOf S d with
    | some es => some (.int es.length, S)
    | none => none
  | _ => none
def rLen (K : PySem.W.Frag) : List V → Hp → VK → Prop := fun xs H Q => (∃ p ys, xs = [.ref p] ∧ (SqL K H p ys ∨ SqT K H p ys) ∧ Q (.int ys.length) H) ∨ (∃ z, xs = [.str z] ∧ z.length ≤ sizeLine ∧ Q (.int z.length) H)
theorem cr_len : CallR X (.builtin "len") (rLen X.K) := CallR.or call_len_seq call_len_str
theorem ok_len : OkCall K (rLen K) cLen := by
  intro ρ H S S' vs ds z Q r hv hg q
  unfold cLen at hg
  split at hg
  · split at hg
    · rename_i hl
      cases hg
      obtain ⟨v, rfl, hw⟩ := rds1 hv
      cases hw
      exact .inr ⟨_, rfl, lim_le hl, q ρ H _ (Ext.refl ρ H) r (.int _)⟩
    · cases hg
  · split at hg
    · rename_i es he
      cases hg
      obtain ⟨v, rfl, hw⟩ := rds1 hv
      obtain ⟨p, xs, rfl, hs, hr⟩ := items_rd r hw he
      refine .inl ⟨p, xs, rfl, hs, ?_⟩
      rw [hr.len]
      exact q ρ H _ (Ext.refl ρ H) r (.int _)
    · cases hg
  · cases hg
def intsD : List D → Option (List Int) := mapO fun
  | .int i => some i
  | _ => none
theorem intsD_rd : ∀ {xs : List V} {ds : List D} {ns : List Int}, RDs K ρ H xs ds → intsD ds = some ns → xs = ns.map V.int
  | [], [], ns, _, h => by cases h; rfl
  | [], _ :: _, _, q, _ => by have := q.len; simp at this
  | _ :: _, [], _, q, _ => by have := q.len; simp at this
  | x :: xs, d :: ds, ns, q, h => by
    obtain ⟨y, ys, h1, h2, rfl⟩ := mapO_cons h
    have e := intsD_rd (xs := xs) (ds := ds) ⟨by have := q.len; simpa using this, fun i x' d' a b => q.at_ (i + 1) x' d' a b⟩ h2
    have hx := q.at_ 0 x d rfl rfl
    split at h1
    · cases h1
      cases hx
      rw [e]
      rfl
    · cases h1
def listOf (S : Sto) : D → Option (List D)
  | .kl ds => some ds
  | .vl ds => some ds
  | .ref k => match S[k]? with
    | some c => c.its
    | none => none
  | _ => none
theorem list_rd (r : Rel K ρ H S) {y : V} {e : D} {ds : List D} (hy : RD K ρ H y e) (h : listOf S e = some ds) : ∃ p xs, y = .ref p ∧ SqL K H p xs ∧ RDs K ρ H xs ds := by
  cases hy with
  | kl hs hl ha => cases h; exact ⟨_, _, rfl, hs _, hl, ha⟩
  | vl hs hl ha => cases h; exact ⟨_, _, rfl, hs.sq, hl, ha⟩
  | ref hr hkL =>
    simp only [listOf] at h
    split at h
    · rename_i c hc
      obtain ⟨xs, h1, h2⟩ := r.seq hr hc (ds := ds) h
      exact ⟨_, xs, rfl, h1, h2⟩
    · cases h
  | _ => cases h
def cSum : CF := fun ds S => match ds with
  | [d] => match listOf S d with
    | some es => match intsD es with
      | some ns => some (.int ns.sum, S)
      | none => none
    | none => none
  | _ => none
theorem ok_sum : OkCall K (rSum K) cSum := by
  intro ρ H S S' vs ds z Q r hv hg q
  unfold cSum at hg
  split at hg
  · split at hg
    · rename_i es he
      split at hg
      · rename_i ns hns
        cases hg
        obtain ⟨v, rfl, hw⟩ := rds1 hv
        obtain ⟨p, xs, rfl, hs, hr⟩ := list_rd r hw he
        rw [intsD_rd hr hns] at hs
        exact ⟨p, ns, rfl, hs, q ρ H _ (Ext.refl ρ H) r (.int _)⟩
      · cases hg
    · cases hg
  · cases hg
def cMin : CF := fun ds S => match ds with
  | [.int i, .int j] => some (.int (if j < i then j else i), S)
  | _ => none
def cMax : CF := fun ds S => match ds with
  | [.int i, .int j] => some (.int (if j > i then j else i), S)
  | _ => none
theorem ok_max : OkCall K (fun xs H Q => ∃ i j, xs = [.int i, .int j] ∧ Q (.int (if j > i then j else i)) H) cMax := by
  intro ρ H S S' vs ds z Q r hv hg q
  unfold cMax at hg
  split at hg
  · cases hg
    obtain ⟨v, u, rfl, hw, hu⟩ := rds2 hv
    cases hw; cases hu
    exact ⟨_, _, rfl, q ρ H _ (Ext.refl ρ H) r (.int _)⟩
  · cases hg
def cInt : CF := fun ds S => match ds with
  | [.int i] => some (.int i, S)
  | [.bl k] => some (.int (if k then 1 else 0), S)
  | _ => none
theorem ok_int : OkCall K (fun xs H Q => (∃ i, xs = [.int i] ∧ Q (.int i) H) ∨ ∃ k, xs = [.bl k] ∧ Q (.int (if k then 1 else 0)) H) cInt := by
  intro ρ H S S' vs ds z Q r hv hg q
  unfold cInt at hg
  split at hg
  · cases hg
    obtain ⟨v, rfl, hw⟩ := rds1 hv
    cases hw
    exact .inl ⟨_, rfl, q ρ H _ (Ext.refl ρ H) r (.int _)⟩
  · cases hg
    obtain ⟨v, rfl, hw⟩ := rds1 hv
    cases hw
    exact .inr ⟨_, rfl, q ρ H _ (Ext.refl ρ H) r (.int _)⟩
  · cases hg
def cListOf (rm : Bool) : CF := fun ds S => match ds with
  | [d] => match itemsOf S d with
    | some es => some (mkV rm es S)
    | none => none
  | _ => none
def cTupleOf : CF := fun ds S => match ds with
  | [d] => match itemsOf S d with
    | some es => some (.tup es, S)
    | none => none
  | _ => none
def tyN (S : Sto) : D → Option String
  | .non => some "NoneType"
  | .bl _ => some "bool"
  | .int _ => some "int"
  | .str _ => some "str"
  | .tup _ => some "tuple"
  | .ref k => match S[k]? with
    | some (.dic _ _) => some "dict"
    | some (.dit _ _) => some "dict"
    | some (.tbl _ _) => none
    | some _ => some "list"
    | none => none
  | .ty _ => none
  | .kl _ => none
  | .vl _ => some "list"
  | .dv _ _ => some "dict"
  | .gl _ => none
  | .exc _ _ => none
  | .lam _ _ _ _ _ _ => none
theorem tyN_rd (r : Rel K ρ H S) {v : V} {d : D} {n : String} (h : RD K ρ H v d) (hn : tyN S d = some n) : TyX K H v (.type n) := by
  cases h with
  | ty n => cases hn
  | dv hs hn' hk hl ha => cases hn; exact .base (.dK hs)
  | gl h0 => cases hn
  | exc _ _ _ _ _ _ _ => cases hn
  | excN _ _ _ => cases hn
  | lam _ _ _ _ _ => cases hn
  | kl hs hl ha => cases hn
  | vl hs hl ha => cases hn; exact .base (.lst hs.1)
  | non => cases hn; exact .base .non
  | bl b => cases hn; exact .base (.bl b)
  | int i => cases hn; exact .base (.int i)
  | str x => cases hn; exact .base (.str x)
  | tup hs hl ha =>
    cases hn
    rcases hs with (hs | ⟨o, hs⟩) | ⟨o, its, m, h1, h2, _⟩
    · exact .base (.tup hs)
    · exact .fTuple hs
    · exact .kTuple h1 h2
  | ref hr hkL =>
    simp only [tyN] at hn
    split at hn
    · rename_i ks ds hc
      cases hn
      obtain ⟨xs, e, _⟩ := r.cell _ _ _ hr hc
      exact .base (.dK e)
    · rename_i ks ds hc
      cases hn
      obtain ⟨xs, e, _⟩ := r.cell _ _ _ hr hc
      exact .base (.dT e)
    · cases hn
    · rename_i c n1 n2 n3 hc
      cases hn
      have q := r.cell _ _ c hr hc
      cases c with
      | lst ds => obtain ⟨xs, e, _⟩ := q; exact .base (.lst e)
      | frz ds => obtain ⟨xs, o, e, _⟩ := q; exact .base (.frz e)
      | dic ks ds => exact absurd rfl (n1 ks ds)
      | dit ks ds => exact absurd rfl (n2 ks ds)
      | tbl n0 q0 => exact absurd rfl (n3 n0 q0)
    · cases hn
def cIsi : CF := fun ds S => match ds with
  | [d, .ty n] => match tyN S d with
    | some m => match kitB m n with
      | some b => some (.bl b, S)
      | none => none
    | none => none
  | _ => none
theorem ok_isi : OkCall K (rIsi K) cIsi := by
  intro ρ H S S' vs ds z Q r hv hg q
  unfold cIsi at hg
  split at hg
  · rename_i d n
    split at hg
    · rename_i m hm
      split at hg
      · rename_i b hb
        cases hg
        obtain ⟨v, u, rfl, hw, hu⟩ := rds2 hv
        cases hu
        exact ⟨v, .ty n, _, _, b, rfl, .ty n, tyN_rd r hw hm, kit_ty hb, q ρ H _ (Ext.refl ρ H) r (.bl _)⟩
      · cases hg
    · cases hg
  · cases hg
end
end Lv
namespace Lv
open PySem PySem.Spec PyProof.Rows L2
mutual
def noDict : PyData → Bool
  | .list xs => noDictAll xs
  | .tuple xs => noDictAll xs
  | .dict _ => false
  | _ => true
def noDictAll : List PyData → Bool
  | [] => true
  | x :: xs => noDict x && noDictAll xs
end
def sizeP (p : PyData) : Bool := decide (p.shown.length ≤ lim)
def cRepr : CF := fun ds S => match ds with
  | [.dv [] []] => some (.str "{}", S)
  | [d] => match toP 60 S d with
    | some p => if p.showable && !p.hasDict && decide (p.depth ≤ 60) && sizeP p then some (.str p.shown, S) else none
    | none => none
  | _ => none
def rReprP (K : PySem.W.Frag) : List V → Hp → VK → Prop := fun xs H Q => ∃ v p, xs = [v] ∧ Dp K H v p ∧ p.showable = true ∧ p.hasDict = false ∧ p.depth ≤ 60 ∧ p.shown.length ≤ sizeLine ∧ Q (.str p.shown) H
section
variable {X : Cx} {K : PySem.W.Frag} {ρ : List Addr} {H : Hp} {S : Sto}
theorem call_reprP (hG : X.A.guards = some []) (hu : X.A.units + 64 < cLine) : CallR X (.builtin "repr") (rReprP X.K) := by
  intro pins s σ H xs us Q I rv h
  obtain ⟨v, p, rfl, hd, h1, h2, h3, h4, q⟩ := h
  cases rv with
  | cons r1 rn =>
    rename_i u us'
    cases rn
    obtain ⟨as, hr⟩ := Dp.reads I p v u hd r1
    have go : ∀ a, u = .ref a → wpAny (model X.prog X.w) X.A (call (.builtin "repr") [u]) (EP X pins σ Q) X.xe s := fun a e => by
      subst e
      exact repr_of_reads' hr h1 (by rw [h2]; intro z; cases z) hG (by omega) (fun b o e => e) (fun h' t tk k => ⟨.str p.shown, H, I.kept k, ⟨t, rfl⟩, q⟩) h4
    cases hr with
    | none =>
      simp only [PyData.shown] at q
      exact PySem.P.repr_of_none ⟨.str _, H, I.tok _, ⟨_, rfl⟩, q⟩
    | bool b =>
      simp only [PyData.shown] at q
      exact PySem.P.repr_of_bool ⟨.str _, H, I.tok _, ⟨_, rfl⟩, q⟩
    | int i t =>
      simp only [PyData.shown] at q
      exact PySem.P.repr_of_int (by simpa [PyData.showable] using h1) ⟨.str _, H, I.tok _, ⟨_, rfl⟩, q⟩
    | str x t =>
      simp only [PyData.shown] at q h4
      exact PySem.P.repr_of_str ⟨.str _, H, I.tok _, ⟨_, rfl⟩, q⟩ h4
    | list a1 a2 a3 a4 => exact go _ rfl
    | tuple a1 a2 a3 a4 => exact go _ rfl
    | dict a1 a2 a3 a4 a5 => exact go _ rfl
def rReprE : List V → Hp → VK → Prop := fun xs H Q => ∃ a, xs = [.ref a] ∧ H a = some (.dK []) ∧ Q (.str "{}") H
theorem call_reprE (hG : X.A.guards = some []) (hu : X.A.units + 64 < cLine) : CallR X (.builtin "repr") rReprE := by
  intro pins s σ H xs us Q I rv h
  obtain ⟨a, rfl, h, q⟩ := h
  cases rv with
  | cons r1 rn =>
    rename_i u us'
    cases rn
    obtain rfl : u = Value.ref a := r1
    obtain ⟨_, hs, vs, rk, o, es, ep, ho, ⟨hc, _⟩, hd, _, hp, _⟩ := (show ObjOk X.prog X.w H s.heap a (.dK []) from I.hok a _ h)
    cases rk
    have he : es.toList = [] := by
      cases e : es.toList with
      | nil => rfl
      | cons b bs => rw [e] at hp; cases hp
    have rd : Reads s.heap (.ref a) (.dict []) [a] := .dict (as := []) (bs := []) ho hc hd (by rw [he]; exact .nil) (by rw [he]; exact .nil)
    exact repr_of_reads' rd rfl (fun _ hm => by
      rw [List.mem_singleton.mp hm] at hs
      simp at hs) hG (by show X.A.units + (1 + 1) < cLine; omega) (fun b o e => e) (fun h' t tk k => ⟨.str "{}", H, I.kept k, ⟨t, rfl⟩, q⟩) (by decide)
def rRepr (K : PySem.W.Frag) : List V → Hp → VK → Prop := fun xs H Q => rReprP K xs H Q ∨ rReprE xs H Q
theorem call_repr (hG : X.A.guards = some []) (hu : X.A.units + 64 < cLine) : CallR X (.builtin "repr") (rRepr X.K) := CallR.or (call_reprP hG hu) (call_reprE hG hu)
theorem ok_repr : OkCall K (rRepr K) cRepr := by
  intro ρ H S S' vs ds z Q r hv hg q
  unfold cRepr at hg
  split at hg
  · cases hg
    obtain ⟨v, rfl, hw⟩ := rds1 hv
    cases hw with
    | dv h hn hk hl ha =>
      rename_i a kvs
      cases kvs with
      | nil => exact .inr ⟨a, rfl, h, q ρ H _ (Ext.refl ρ H) r (.str _)⟩
      | cons kv kvs => cases hk
  · split at hg
    · rename_i p hp
      split at hg
      · rename_i hc
        cases hg
        obtain ⟨v, rfl, hw⟩ := rds1 hv
        simp only [Bool.and_eq_true, Bool.not_eq_true', decide_eq_true_eq, sizeP] at hc
        obtain ⟨⟨⟨c1, c2⟩, c3⟩, c4⟩ := hc
        exact .inl ⟨v, p, rfl, dp_of r _ v _ p hw hp, c1, c2, c3, lim_le c4, q ρ H _ (Ext.refl ρ H) r (.str _)⟩
      · cases hg
    · cases hg
  · cases hg
end
theorem cRepr_of {S : Sto} {d : D} {p : PyData} (e : toP 60 S d = some p) : cRepr [d] S = if p.showable && !p.hasDict && decide (p.depth ≤ 60) && sizeP p then some (.str p.shown, S) else none := by
  have k : ∀ d' : D, (∀ ks ds, d' ≠ .dv ks ds) → cRepr [d'] S = (match toP 60 S d' with
      | some p => if p.showable && !p.hasDict && decide (p.depth ≤ 60) && sizeP p then some (.str p.shown, S) else none
      | none => none) := fun d' h => by
    cases d' <;> first | rfl | exact absurd rfl (h _ _)
  rw [k d (fun ks ds q => by rw [q] at e; cases e), e]
def gIx : OF := fun x y S => match y with
  | .int i => match x with
    | .str z => if z.length ≤ lim then (match atI z.cps.toList i with
      | some c => some (.str ⟨#[c]⟩, S)
      | none => none) else none
    | d => match itemsOf S d with
      | some ds => match atI ds i with
        | some e => some (e, S)
        | none => none
      | none => none
  | _ => none
def rIx (K : PySem.W.Frag) : R2 := fun x y H Q => (rIxL K x y H Q ∨ rIxT K x y H Q) ∨ rIxS x y H Q
section
variable {X : Cx} {K : PySem.W.Frag} {ρ : List Addr} {H : Hp} {S : Sto}
theorem ix_any : IxR X (rIx X.K) := IxR.or (IxR.or ix_list ix_tup) ix_str
theorem atI_rd {xs : List V} {ds : List D} {i : Int} {e : D} (h : RDs K ρ H xs ds) (he : atI ds i = some e) : ∃ v, atI xs i = some v ∧ RD K ρ H v e := by
  unfold atI at he ⊢
  rw [h.len]
  cases q : ixN ds.length i with
  | none => rw [q] at he; cases he
  | some j =>
    rw [q] at he
    exact h.get he
theorem ok_ix : OkOp K (rIx K) gIx := by
  intro ρ H S S' x y d e z Q r hx hy hg q
  unfold gIx at hg
  split at hg
  · rename_i i
    cases hy
    split at hg
    · split at hg
      · rename_i hl
        split at hg
        · rename_i c hc
          cases hg
          cases hx
          exact .inr ⟨_, _, c, rfl, rfl, lim_le hl, hc, q ρ H _ (Ext.refl ρ H) r (.str _)⟩
        · cases hg
      · cases hg
    · split at hg
      · rename_i ds hds
        split at hg
        · rename_i e' he
          cases hg
          obtain ⟨p, xs, rfl, hs, hr⟩ := items_rd r hx hds
          obtain ⟨v, hv, hvd⟩ := atI_rd hr he
          rcases hs with hs | hs
          · exact .inl (.inl ⟨p, xs, i, v, rfl, rfl, hs, hv, q ρ H _ (Ext.refl ρ H) r hvd⟩)
          · exact .inl (.inr ⟨p, xs, i, v, rfl, rfl, hs, hv, q ρ H _ (Ext.refl ρ H) r hvd⟩)
        · cases hg
      · cases hg
  · cases hg
theorem l_ix {a b : Expr} {fa fb : EF} {pos : Pos} (ha : PE X a (tE X.K fa)) (hb : PE X b (tE X.K fb)) (hs : PlainIx b := by exact fun _ _ => rfl) : PE X (.Subscript a b pos) (tE X.K (eBin gIx fa fb)) :=
  (pe_ix ix_any ha hb hs).imp (bin_imp ok_ix)
end
abbrev OPF := Env → Sto → Option (Option Int × Sto)
def oNone : OPF := fun _ S => some (none, S)
def oSome (f : EF) : OPF := fun env S => match f env S with
  | some (.int i, S1) => some (some i, S1)
  | _ => none
def cutD (xs : List D) (lo hi : Option Int) : List D := (xs.drop (HT.sIx xs.length 0 lo)).take (HT.sIx xs.length xs.length hi - HT.sIx xs.length 0 lo)
def gSl (rm : Bool) (x : D) (lo hi : Option Int) (S : Sto) : Option (D × Sto) := match x with
  | .str z => if z.length ≤ lim then some (.str (cutS z lo hi), S) else none
  | .tup ds => some (.tup (cutD ds lo hi), S)
  | d => match listOf S d with
    | some ds => some (mkV rm (cutD ds lo hi) S)
    | none => none
def eSl (rm : Bool) (f : EF) (l h : OPF) : EF := fun env S => match f env S with
  | none => none
  | some (x, S1) => match l env S1 with
    | none => none
    | some (lo, S2) => match h env S2 with
      | none => none
      | some (hi, S3) => gSl rm x lo hi S3
def tO (K : PySem.W.Frag) (f : OPF) : TO := fun σ H Q => ∃ ρ S env o S', Rel K ρ H S ∧ EnvR K ρ H σ env ∧ f env S = some (o, S') ∧
  ∀ ρ' H', Ext ρ H ρ' H' → Rel K ρ' H' S' → Q o H'
def rSl (K : PySem.W.Frag) : V → Option Int → Option Int → Hp → VK → Prop := fun x lo hi H Q => (rSlL K x lo hi H Q ∨ rSlA K x lo hi H Q) ∨ rSlS x lo hi H Q
section
variable {X : Cx} {K : PySem.W.Frag} {ρ : List Addr} {H : Hp} {S : Sto} {e : Expr} {fe : EF} {lo hi : Option Expr} {fl fh : OPF} {pos p2 : Pos}
theorem lo_none : PO X none (tO X.K oNone) := ⟨fun pins s σ H Q I h => po_none.run pins s σ H Q I (by
  obtain ⟨ρ, S, env, o, S', r, en, hf, q⟩ := h
  cases hf
  exact q ρ H (Ext.refl ρ H) r)⟩
theorem lo_some (h : PE X e (tE X.K fe)) : PO X (some e) (tO X.K (oSome fe)) := ⟨fun pins s σ H Q I hw => (po_some h).run pins s σ H Q I (by
  obtain ⟨ρ, S, env, o, S', r, en, hf, q⟩ := hw
  unfold oSome at hf
  split at hf
  · rename_i i S1 h1
    cases hf
    refine run_e r en h1 fun ρ1 H1 v1 e1 r1 hv1 en1 => ?_
    cases hv1
    exact ⟨_, rfl, q ρ1 H1 e1 r1⟩
  · cases hf)⟩
theorem sl_any : SlR X (rSl X.K) := SlR.or (SlR.or sl_list sl_tupA) sl_str
theorem cut_rd {xs : List V} {ds : List D} (h : RDs K ρ H xs ds) (lo hi : Option Int) : RDs K ρ H (cutV xs lo hi) (cutD ds lo hi) := by
  unfold cutV cutD
  rw [h.len]
  exact (h.drop _).take _
theorem ok_sl {rm : Bool} {x : V} {d z : D} {lo hi : Option Int} {S S' : Sto} {Q : VK} (r : Rel K ρ H S) (hx : RD K ρ H x d) (hg : gSl rm d lo hi S = some (z, S')) (q : ∀ ρ' H' v, Ext ρ H ρ' H' → Rel K ρ' H' S' → RD K ρ' H' v z → Q v H') : rSl K x lo hi H Q := by
  unfold gSl at hg
  split at hg
  · split at hg
    · rename_i hl
      cases hg
      cases hx
      exact .inr ⟨_, rfl, lim_le hl, q ρ H _ (Ext.refl ρ H) r (.str _)⟩
    · cases hg
  · rename_i ds
    cases hg
    cases hx with
    | tup hs hl ha =>
      rename_i a xs
      have R := RDs.mk hl ha
      refine .inl (.inr ⟨a, xs, rfl, hs, fun hw => ?_, fun _ p hp => ?_⟩)
      · refine q ρ H _ (Ext.refl ρ H) r ?_
        have e1 : cutD ds lo hi = ds := by
          unfold cutD
          rw [← hl, hw.1, hw.2, List.drop_zero, Nat.sub_zero, hl, List.take_length]
        rw [e1]
        exact .tup hs hl ha
      · have e := ext_new (ρ := ρ) (o := .tup (cutV xs lo hi)) hp
        have RR := (cut_rd R lo hi).ext r e
        exact q ρ _ _ e (r.newT hp) (.tup (SqT.of upd_same) RR.len RR.at_)
  · split at hg
    · rename_i ds hds
      obtain ⟨p, xs, rfl, hs, hr⟩ := list_rd r hx hds
      exact .inl (.inl ⟨p, xs, rfl, hs, fun l hl => mkV_ok r (cut_rd hr lo hi) (Option.some.inj hg) hl q⟩)
    · cases hg
theorem l_sl {rm : Bool} (he : PE X e (tE X.K fe)) (hl : PO X lo (tO X.K fl)) (hh : PO X hi (tO X.K fh)) : PE X (.Subscript e (.Slice lo hi none p2) pos) (tE X.K (eSl rm fe fl fh)) := by
  refine (pe_slice sl_any he hl hh).imp fun σ H Q h => ?_
  obtain ⟨ρ, S, env, d, S', r, en, hf, q⟩ := h
  unfold eSl at hf
  split at hf
  · cases hf
  · rename_i x S1 h1
    split at hf
    · cases hf
    · rename_i o1 S2 h2
      split at hf
      · cases hf
      · rename_i o2 S3 h3
        refine run_e r en h1 fun ρ1 H1 v1 e1 r1 hv1 en1 => ?_
        refine ⟨ρ1, S1, env, o1, S2, r1, en1, h2, fun ρ2 H2 e2 r2 => ⟨ρ2, S2, env, o2, S3, r2, en1.ext r1 e2, h3, fun ρ3 H3 e3 r3 => ?_⟩⟩
        exact ok_sl r3 (hv1.ext r1 (e2.trans e3)) hf fun ρ4 H4 v e4 r4 hv => q ρ4 H4 v ((e1.trans (e2.trans e3)).trans e4) r4 hv
end
abbrev MF := D → List D → Sto → Option (D × Sto)
def OkM (K : PySem.W.Frag) (r : V → List V → Hp → VK → Prop) (g : MF) : Prop := ∀ ρ H S S' x vs d ds z (Q : VK), Rel K ρ H S → RD K ρ H x d → RDs K ρ H vs ds → g d ds S = some (z, S') →
  (∀ ρ' H' v, Ext ρ H ρ' H' → Rel K ρ' H' S' → RD K ρ' H' v z → Q v H') → r x vs H Q
def isRef (S : Sto) : D → Bool
  | .vl _ => true
  | .ref k => decide (k < S.length)
  | _ => false
def eMethL (g : MF) (fo : EF) (fa : AF) : EF := fun env S => match fo env S with
  | none => none
  | some (x, S1) => if isRef S1 x then (match fa env S1 with
    | none => none
    | some (ds, S2) => g x ds S2) else none
section
variable {X : Cx} {K : PySem.W.Frag} {ρ : List Addr} {H : Hp} {S : Sto} {o e : Expr} {es : List Expr} {fo : EF} {fs : AF} {name : Str} {apos cpos : Pos} {T id : String} {r : V → List V → Hp → VK → Prop} {g : MF}
theorem ref_rd (r : Rel K ρ H S) {x : V} {d : D} (hx : RD K ρ H x d) (h : isRef S d = true) : tyV K "list" x H := by
  cases hx with
  | ref hr hkL =>
    rcases hkL with ⟨xs, e⟩ | ⟨o, xs, e⟩
    · exact .inl ⟨rfl, xs, .inl (.inl e)⟩
    · exact .inl ⟨rfl, xs, .inl (.inr ⟨o, e⟩)⟩
  | vl hs hl ha => exact .inl ⟨rfl, _, hs.sq⟩
  | _ => cases h
theorem methL_imp (ho : OkM X.K r g) (σ : L2.St) (H : Hp) (Q : VK) (h : tE X.K (eMethL g fo fs) σ H Q) : tBM X.K "list" r (tE X.K fo) (tA X.K fs) σ H Q := by
  obtain ⟨ρ, S, env, d, S', rl, en, hf, q⟩ := h
  unfold eMethL at hf
  split at hf
  · cases hf
  · rename_i x S1 h1
    split at hf
    · rename_i hk
      split at hf
      · cases hf
      · rename_i ds S2 h2
        refine run_e rl en h1 fun ρ1 H1 v1 e1 r1 hv1 en1 => ⟨ref_rd r1 hv1 hk, run_a r1 en1 h2 fun ρ2 H2 vs2 e2 r2 hv2 en2 => ?_⟩
        exact ho ρ2 H2 S2 S' v1 vs2 x ds d Q r2 (hv1.ext r1 e2) hv2 hf fun ρ3 H3 v3 e3 r3 hv3 => q ρ3 H3 v3 ((e1.trans e2).trans e3) r3 hv3
    · cases hf
theorem l_methL (slot : Slot "list" name id) (hty : typeOf (.builtin id) = pure (.type "method_descriptor")) (hm : MtR X id r) (hok : OkM X.K r g) (ho : PE X o (tE X.K fo)) (ha : PA X (e :: es) (tA X.K fs))
    (hbase : attributeBase o name X.env (eval o X.env) = eval o X.env := by rfl)
    (hfew : ((backTo cpos (starEach (e :: es) X.env)).all (fun x => !x.1) && (backToKw cpos (keywordEach [] X.env)).all (fun x => x.1.isSome)
      && decide ((e :: es).length + ([] : List Keyword).length + (if ([] : List Keyword).isEmpty then 0 else 1) < 30)) = true := by rfl)
    (hline : (apos.endLine == cpos.line) = true := by rfl) (hs : starEach (e :: es) X.env = (false, eval e X.env) :: starEach es X.env := by rfl) (hplain : (backTo cpos (starEach es X.env)).any (·.1) = false := by rfl) :
    PE X (.Call (.Attribute o name apos) (e :: es) [] cpos) (tE X.K (eMethL g fo fs)) :=
  (pe_bm PySem.F.plainAttrs_list slot hty hm ho ha hbase hfew hline hs hplain).imp (methL_imp hok)
def mAppend : MF := fun x ds S => match x, ds with
  | .ref k, [d] => match S[k]? with
    | some (.lst es) => if es.length < lim then some (.non, S.set k (.lst (es ++ [d]))) else none
    | _ => none
  | _, _ => none
theorem ok_append : OkM K rAppend mAppend := by
  intro ρ H S S' x vs d ds z Q r hx hv hg q
  unfold mAppend at hg
  split at hg
  · rename_i k d'
    split at hg
    · rename_i es hc
      split at hg
      · rename_i hl
        cases hg
        obtain ⟨y, rfl, hy⟩ := rds1 hv
        cases hx with
        | ref hr hkL =>
          rename_i a
          obtain ⟨xs, h1, h2⟩ := r.cell _ _ _ hr hc
          refine ⟨a, xs, y, rfl, rfl, h1, lim_lt (by rw [h2.len]; omega), ?_⟩
          have hw : RDs K ρ H [y] [d'] := .cons hy .nil
          exact q ρ _ _ (ext_mut (List.mem_of_getElem? hr)) (r.mutL hr (h2.append hw)) .non
      · cases hg
    · cases hg
  · cases hg
def eBits (f : EF) : EF := fun env S => match f env S with
  | some (.int i, S1) => some (.int (Builtin.Int.intBits i : Nat), S1)
  | _ => none
theorem l_bits {apos pos : Pos} (ho : PE X o (tE X.K fo)) (hbase : attributeBase o "bit_length" X.env (eval o X.env) = eval o X.env := by rfl) (hline : (apos.endLine == pos.line) = true := by rfl) : PE X (.Call (.Attribute o "bit_length" apos) [] [] pos) (tE X.K (eBits fo)) := by
  refine (pe_bits ho hbase hline).imp fun σ H Q h => ?_
  obtain ⟨ρ, S, env, d, S', r, en, hf, q⟩ := h
  unfold eBits at hf
  split at hf
  · rename_i i S1 h1
    cases hf
    refine run_e r en h1 fun ρ1 H1 v1 e1 r1 hv1 en1 => ?_
    cases hv1
    exact ⟨_, rfl, q ρ1 H1 _ e1 r1 (.int _)⟩
  · cases hf
end
def eNeg (f : EF) : EF := fun env S => match f env S with
  | some (.int i, S1) => some (.int (-i), S1)
  | _ => none
section
variable {X : Cx} {a b c : Expr} {rest : List Expr} {fa fb fc : EF} {ga gb : TF} {pos : Pos}
def truD (S : Sto) : D → Option Bool
  | .non => some false
  | .bl b => some b
  | .int i => some (i != 0)
  | .str x => if x.length ≤ lim then some ((x.length : Int) != 0) else none
  | .ty _ => none
  | .dv ks _ => some (!ks.isEmpty)
  | .gl _ => none
  | .exc _ _ => none
  | .lam _ _ _ _ _ _ => none
  | d => match itemsOf S d with
    | some ds => some (!ds.isEmpty)
    | none => none
def truF (f : EF) : TF := fun env S => match f env S with
  | some (d, S1) => match truD S1 d with
    | some b => some (b, S1)
    | none => none
  | none => none
theorem isEmpty_rd {K : PySem.W.Frag} {ρ : List Addr} {H : Hp} {xs : List V} {ds : List D} (h : RDs K ρ H xs ds) : xs.isEmpty = ds.isEmpty := by
  have := h.len
  cases xs <;> cases ds <;> simp_all
theorem tru_rd {K : PySem.W.Frag} {ρ : List Addr} {H : Hp} {S : Sto} {x : V} {d : D} {b : Bool} (r : Rel K ρ H S) (hx : RD K ρ H x d) (h : truD S d = some b) : TruV K x H b := by
  cases hx with
  | dv hs hn hk hl ha =>
    cases h
    rw [← hk, List.isEmpty_map]
    exact .inr (.inr ⟨_, hs, rfl⟩)
  | gl h0 => cases h
  | exc _ _ _ _ _ _ _ => cases h
  | excN _ _ _ => cases h
  | lam _ _ _ _ _ => cases h
  | ty n => cases h
  | non => cases h; rfl
  | bl k => cases h; rfl
  | int i => cases h; rfl
  | str y =>
    simp only [truD] at h
    split at h
    · rename_i hl
      cases h
      exact ⟨lim_le hl, rfl⟩
    · cases h
  | tup hs hl ha =>
    cases h
    exact .inr (.inl ⟨_, hs, by rw [isEmpty_rd (RDs.mk hl ha)]⟩)
  | kl hs hl ha =>
    cases h
    exact .inl ⟨_, hs _, by rw [isEmpty_rd (RDs.mk hl ha)]⟩
  | vl hs hl ha =>
    cases h
    exact .inl ⟨_, hs.sq, by rw [isEmpty_rd (RDs.mk hl ha)]⟩
  | ref hr hkL =>
    simp only [truD] at h
    split at h
    · rename_i ds hd
      cases h
      obtain ⟨p, xs, e, hs, hq⟩ := items_rd r (.ref hr hkL) hd
      cases e
      rcases hs with hs | hs
      · exact .inl ⟨_, hs, by rw [isEmpty_rd hq]⟩
      · exact .inr (.inl ⟨_, hs, by rw [isEmpty_rd hq]⟩)
    · cases h
theorem lt_tru (h : PE X a (tE X.K fa)) (he : ∀ whole, isTrue a X.env whole = (do let v ← whole; standAt a.pos; holding [v] (truthy v)) := by intro _; rfl) : PT X a (tT X.K (truF fa)) := (pt_truth h he).imp fun σ H Q h => by
  obtain ⟨ρ, S, env, b, S', r, en, hf, q⟩ := h
  unfold truF at hf
  split at hf
  · rename_i d S1 h1
    split at hf
    · rename_i b' hb
      cases hf
      refine run_e r en h1 fun ρ1 H1 v1 e1 r1 hv1 en1 => ?_
      exact ⟨_, tru_rd r1 hv1 hb, q ρ1 H1 e1 r1⟩
    · cases hf
  · cases hf
def tAndF (f g : TF) : TF := fun env S => match f env S with
  | some (true, S1) => g env S1
  | some (false, S1) => some (false, S1)
  | none => none
def tOrF (f g : TF) : TF := fun env S => match f env S with
  | some (true, S1) => some (true, S1)
  | some (false, S1) => g env S1
  | none => none
def tNotF (f : TF) : TF := fun env S => match f env S with
  | some (b, S1) => some (!b, S1)
  | none => none
theorem _root_.L2.PW.imp {X : Cx} {e : Expr} {t t' : TT} (h : PW X e t) (i : ∀ σ H Q, t' σ H Q → t σ H Q) : PW X e t' := ⟨fun wh pins s σ H Q I q => h.run wh pins s σ H Q I (i σ H Q q)⟩
theorem lw_or (ha : PT X a (tT X.K ga)) (hb : PW X (.BoolOp .Or (b :: rest) pos) (tT X.K gb)) : PW X (.BoolOp .Or (a :: b :: rest) pos) (tT X.K (tOrF ga gb)) := (pw_or ha hb).imp fun σ H Q h => by
  obtain ⟨ρ, S, env, d, S', r, en, hf, q⟩ := h
  unfold tOrF at hf
  split at hf
  · rename_i S1 h1
    cases hf
    refine run_t r en h1 fun ρ1 H1 e1 r1 en1 => iteT ?_
    exact q ρ1 H1 e1 r1
  · rename_i S1 h1
    refine run_t r en h1 fun ρ1 H1 e1 r1 en1 => iteF ?_
    exact run_t r1 en1 hf fun ρ2 H2 e2 r2 en2 => q ρ2 H2 (e1.trans e2) r2
  · cases hf
theorem lw_or1 (ha : PT X a (tT X.K ga)) : PW X (.BoolOp .Or [a] pos) (tT X.K ga) := pw_or1 ha
theorem lt_not (ha : PT X a (tT X.K ga)) : PT X (.UnaryOp .Not a pos) (tT X.K (tNotF ga)) := (pt_not ha).imp fun σ H Q h => by
  obtain ⟨ρ, S, env, d, S', r, en, hf, q⟩ := h
  unfold tNotF at hf
  split at hf
  · rename_i b S1 h1
    cases hf
    exact run_t r en h1 fun ρ1 H1 e1 r1 en1 => q ρ1 H1 e1 r1
  · cases hf
def eAnd (f g : EF) : EF := fun env S => match f env S with
  | some (.bl true, S1) => g env S1
  | some (.bl false, S1) => some (.bl false, S1)
  | _ => none
def eOr (f g : EF) : EF := fun env S => match f env S with
  | some (.bl true, S1) => some (.bl true, S1)
  | some (.bl false, S1) => g env S1
  | _ => none
def eIf (t : TF) (f g : EF) : EF := fun env S => match t env S with
  | some (true, S1) => f env S1
  | some (false, S1) => g env S1
  | none => none
def eChain (g g' : OF) (fa fb fc : EF) : EF := fun env S => match fa env S with
  | none => none
  | some (x, S1) => match fb env S1 with
    | none => none
    | some (y, S2) => match g x y S2 with
      | some (.bl true, S3) => (match fc env S3 with
        | none => none
        | some (z, S4) => g' y z S4)
      | some (.bl false, S3) => some (.bl false, S3)
      | _ => none
end
end Lv
namespace Lv
open PySem PySem.Spec PyProof.Rows L2
inductive Out where
  | nx (env : Env) | rt (d : D) | bk (env : Env) | ct (env : Env)
abbrev SF := Env → Sto → Option (Out × Sto)
def OutOk (K : PySem.W.Frag) (ρ : List Addr) (H : Hp) (E : Ends) : Out → Prop
  | .nx env => ∀ σ, EnvR K ρ H σ env → E.nx σ H
  | .rt d => ∀ v, RD K ρ H v d → E.rt v H
  | .bk env => ∀ σ, EnvR K ρ H σ env → E.bk σ H
  | .ct env => ∀ σ, EnvR K ρ H σ env → E.ct σ H
def tS (K : PySem.W.Frag) (f : SF) : TS := fun E σ H => ∃ ρ S env o S', Rel K ρ H S ∧ EnvR K ρ H σ env ∧ f env S = some (o, S') ∧
  ∀ ρ' H', Ext ρ H ρ' H' → Rel K ρ' H' S' → OutOk K ρ' H' E o
theorem run_s {K : PySem.W.Frag} {f : SF} {ρ : List Addr} {H : Hp} {S S' : Sto} {σ : L2.St} {env : Env} {o : Out} {E : Ends} (r : Rel K ρ H S) (en : EnvR K ρ H σ env) (hf : f env S = some (o, S'))
    (h : ∀ ρ' H', Ext ρ H ρ' H' → Rel K ρ' H' S' → OutOk K ρ' H' E o) : tS K f E σ H := ⟨ρ, S, env, o, S', r, en, hf, h⟩
def sNil : SF := fun env S => some (.nx env, S)
def sCons (f g : SF) : SF := fun env S => match f env S with
  | some (.nx e1, S1) => g e1 S1
  | r => r
def sDrop (f : EF) : SF := fun env S => match f env S with
  | some (_, S1) => some (.nx env, S1)
  | none => none
def sRet (f : EF) : SF := fun env S => match f env S with
  | some (d, S1) => some (.rt d, S1)
  | none => none
def sIf (t : TF) (f g : SF) : SF := fun env S => match t env S with
  | some (true, S1) => f env S1
  | some (false, S1) => g env S1
  | none => none
def sSet (i : Nat) (f : EF) : SF := fun env S => match f env S with
  | some (d, S1) => some (.nx (env.set i (some d)), S1)
  | none => none
section
variable {X : Cx} {st : Stmt} {rest : List Stmt} {f g : SF} {e c : Expr} {fe : EF} {gt : TF} {pos : Pos}
theorem ls_nil : PSs X [] (tS X.K sNil) := pss_nil.imp fun E σ H h => by
  obtain ⟨ρ, S, env, o, S', r, en, hf, q⟩ := h
  cases hf
  exact q ρ H (Ext.refl ρ H) r σ en
theorem ls_cons (h1 : PS X st (tS X.K f)) (h2 : PSs X rest (tS X.K g)) : PSs X (st :: rest) (tS X.K (sCons f g)) := (pss_cons h1 h2).imp fun E σ H h => by
  obtain ⟨ρ, S, env, o, S', r, en, hf, q⟩ := h
  unfold sCons at hf
  split at hf
  · rename_i e1 S1 h1
    refine run_s r en h1 fun ρ1 H1 x1 r1 σ1 en1 => ?_
    exact run_s r1 en1 hf fun ρ2 H2 x2 r2 => q ρ2 H2 (x1.trans x2) r2
  · rename_i hn
    refine run_s r en hf fun ρ1 H1 x1 r1 => ?_
    have q1 := q ρ1 H1 x1 r1
    cases o with
    | nx e1 => exact (hn e1 S' hf).elim
    | rt d => exact q1
    | bk e1 => exact q1
    | ct e1 => exact q1
theorem ls_expr (he : PE X e (tE X.K fe)) (hs : swapsWith e none pos.line X.env = pure false := by rfl) : PS X (.Expr e pos) (tS X.K (sDrop fe)) := (ps_expr he hs).imp fun E σ H h => by
  obtain ⟨ρ, S, env, o, S', r, en, hf, q⟩ := h
  unfold sDrop at hf
  split at hf
  · rename_i d S1 h1
    cases hf
    exact run_e r en h1 fun ρ1 H1 v1 e1 r1 hv1 en1 => q ρ1 H1 e1 r1 σ en1
  · cases hf
theorem ls_ret (he : PE X e (tE X.K fe)) : PS X (.Return (some e) pos) (tS X.K (sRet fe)) := (ps_ret he).imp fun E σ H h => by
  obtain ⟨ρ, S, env, o, S', r, en, hf, q⟩ := h
  unfold sRet at hf
  split at hf
  · rename_i d S1 h1
    cases hf
    exact run_e r en h1 fun ρ1 H1 v1 e1 r1 hv1 en1 => q ρ1 H1 e1 r1 v1 hv1
  · cases hf
theorem ls_if {a b : List Stmt} (hc : PT X c (tT X.K gt)) (ha : PSs X a (tS X.K f)) (hb : PSs X b (tS X.K g)) : PS X (.If c a b pos) (tS X.K (sIf gt f g)) := (ps_if hc ha hb).imp fun E σ H h => by
  obtain ⟨ρ, S, env, o, S', r, en, hf, q⟩ := h
  unfold sIf at hf
  split at hf
  · rename_i S1 h1
    refine run_t r en h1 fun ρ1 H1 e1 r1 en1 => iteT ?_
    exact run_s r1 en1 hf fun ρ2 H2 e2 r2 => q ρ2 H2 (e1.trans e2) r2
  · rename_i S1 h1
    refine run_t r en h1 fun ρ1 H1 e1 r1 en1 => iteF ?_
    exact run_s r1 en1 hf fun ρ2 H2 e2 r2 => q ρ2 H2 (e1.trans e2) r2
  · cases hf
theorem ls_set (i : Nat) {x : Str} {pos' : Pos} (hN : X.N.Nodup) (he : PE X e (tE X.K fe)) (hi : X.N[i]? = some x := by rfl) (hx : Loc X.env.scope x := by first | exact Or.inl rfl | exact Or.inr rfl) (hs : swapsWith e (some (.Name x pos')) pos.line X.env = pure false := by rfl)
    (hf : X.fn x = true ∨ X.env.scope.names.lookup x = some .local := by first | exact .inl rfl | exact .inr rfl | assumption) : PS X (.Assign [.Name x pos'] e pos) (tS X.K (sSet i fe)) := (ps_set hN hi hx he hs hf).imp fun E σ H h => by
  obtain ⟨ρ, S, env, o, S', r, en, hf, q⟩ := h
  unfold sSet at hf
  split at hf
  · rename_i d S1 h1
    cases hf
    exact run_e r en h1 fun ρ1 H1 v1 e1 r1 hv1 en1 => q ρ1 H1 e1 r1 _ (en1.set hv1)
  · cases hf
end
inductive TgO where
  | n (i : Nat) | t (l : List Nat)
inductive Tg where
  | nm (i : Nat) | tp (l : List Nat) | t2 (a b : TgO)
def setsE : List Nat → List D → Env → Env
  | i :: l, d :: ds, env => setsE l ds (env.set i (some d))
  | _, _, env => env
def setsV : List Nat → List V → L2.St → L2.St
  | i :: l, d :: ds, env => setsV l ds (env.set i (some d))
  | _, _, env => env
def set1 (t : TgO) (d : D) (env : Env) : Option Env := match t with
  | .n i => some (env.set i (some d))
  | .t l => match d with
    | .tup ds => if ds.length = l.length then some (setsE l ds env) else none
    | .vl ds => if ds.length = l.length then some (setsE l ds env) else none
    | _ => none
def set2 (a b : TgO) (ds : List D) (env : Env) : Option Env := match ds with
  | [x, y] => (match set1 a x env with
    | some e1 => set1 b y e1
    | none => none)
  | _ => none
def setTg (t : Tg) (d : D) (env : Env) : Option Env := match t with
  | .t2 a b => (match d with
    | .tup ds => set2 a b ds env
    | .vl ds => set2 a b ds env
    | _ => none)
  | .nm i => some (env.set i (some d))
  | .tp l => match d with
    | .tup ds => if ds.length = l.length then some (setsE l ds env) else none
    | .vl ds => if ds.length = l.length then some (setsE l ds env) else none
    | _ => none
def gNames : List Nat → TGs
  | [] => gNil
  | i :: l => gCons (gName i) (gNames l)
def tg1 (K : PySem.W.Frag) : TgO → TG
  | .n i => gName i
  | .t l => fun v σ H Q => gTup K l.length (gNames l) v σ H Q ∨ gLst K l.length (gNames l) v σ H Q
def tgOf (K : PySem.W.Frag) : Tg → TG
  | .nm i => gName i
  | .t2 a b => fun v σ H Q => gTup K 2 (gCons (tg1 K a) (gCons (tg1 K b) gNil)) v σ H Q ∨ gLst K 2 (gCons (tg1 K a) (gCons (tg1 K b) gNil)) v σ H Q
  | .tp l => fun v σ H Q => gTup K l.length (gNames l) v σ H Q ∨ gLst K l.length (gNames l) v σ H Q
def TgO.ix : TgO → List Nat
  | .n i => [i]
  | .t l => l
def Tg.ix : Tg → List Nat
  | .nm i => [i]
  | .tp l => l
  | .t2 a b => a.ix ++ b.ix
theorem setsV_append : ∀ {l m : List Nat} {xs ys : List V} {σ : L2.St}, xs.length = l.length → setsV (l ++ m) (xs ++ ys) σ = setsV m ys (setsV l xs σ)
  | [], m, [], ys, σ, _ => rfl
  | [], m, x :: xs, ys, σ, h => by cases h
  | i :: l, m, [], ys, σ, h => by cases h
  | i :: l, m, x :: xs, ys, σ, h => setsV_append (l := l) (xs := xs) (σ := σ.set i (some x)) (by simpa using h)
section
variable {K : PySem.W.Frag} {ρ : List Addr} {H : Hp} {S : Sto} {σ : L2.St} {env env' : Env}
theorem EnvR.sets : ∀ {l : List Nat} {xs : List V} {ds : List D} {σ : L2.St} {env : Env}, EnvR K ρ H σ env → RDs K ρ H xs ds → EnvR K ρ H (setsV l xs σ) (setsE l ds env)
  | [], xs, ds, σ, env, h, q => h
  | i :: l, [], [], σ, env, h, q => h
  | i :: l, [], _ :: _, σ, env, h, q => by have := q.len; simp at this
  | i :: l, _ :: _, [], σ, env, h, q => by have := q.len; simp at this
  | i :: l, x :: xs, d :: ds, σ, env, h, q => EnvR.sets (l := l) (h.set (q.at_ 0 x d rfl rfl)) ⟨by have := q.len; simpa using this, fun j x' d' a b => q.at_ (j + 1) x' d' a b⟩
theorem run_names : ∀ {l : List Nat} {xs : List V} {σ : L2.St} {Q : L2.St → Hp → Prop}, xs.length = l.length → Q (setsV l xs σ) H → gNames l xs σ H Q
  | [], [], σ, Q, _, h => ⟨rfl, h⟩
  | i :: l, x :: xs, σ, Q, e, h => ⟨x, xs, rfl, run_names (l := l) (by simpa using e) h⟩
theorem run_1 {t : TgO} {v : V} {d : D} {Q : L2.St → Hp → Prop} (en : EnvR K ρ H σ env) (hv : RD K ρ H v d) (h : set1 t d env = some env')
    (q : ∀ xs : List V, xs.length = t.ix.length → EnvR K ρ H (setsV t.ix xs σ) env' → Q (setsV t.ix xs σ) H) : tg1 K t v σ H Q := by
  cases t with
  | n i =>
    cases h
    exact q [v] rfl (en.set hv)
  | t l =>
    unfold set1 at h
    dsimp only at h
    split at h
    · rename_i ds
      split at h
      · rename_i hl
        cases h
        cases hv with
        | tup hs hlen ha =>
          rename_i a xs
          exact .inl ⟨a, xs, rfl, hs, hlen.trans hl, run_names (hlen.trans hl) (q xs (hlen.trans hl) (en.sets ⟨hlen, ha⟩))⟩
      · cases h
    · rename_i ds
      split at h
      · rename_i hl
        cases h
        cases hv with
        | vl hs hlen ha =>
          rename_i a xs
          exact .inr ⟨a, xs, rfl, hs.sq, hlen.trans hl, run_names (hlen.trans hl) (q xs (hlen.trans hl) (en.sets ⟨hlen, ha⟩))⟩
      · cases h
    · cases h
theorem run_2 {a b : TgO} {xs : List V} {ds : List D} {Q : L2.St → Hp → Prop} (en : EnvR K ρ H σ env) (hv : RDs K ρ H xs ds) (h : set2 a b ds env = some env')
    (q : ∀ zs, EnvR K ρ H (setsV (a.ix ++ b.ix) zs σ) env' → Q (setsV (a.ix ++ b.ix) zs σ) H) : gCons (tg1 K a) (gCons (tg1 K b) gNil) xs σ H Q ∧ xs.length = 2 := by
  unfold set2 at h
  split at h
  · rename_i d1 d2
    split at h
    · rename_i e1 h1
      match xs, hv.len with
      | [x, y], _ =>
        refine ⟨⟨x, [y], rfl, run_1 en (hv.at_ 0 x d1 rfl rfl) h1 fun zs l1 en1 => ⟨y, [], rfl, run_1 en1 (hv.at_ 1 y d2 rfl rfl) h fun ys _ en2 => ⟨rfl, ?_⟩⟩⟩, rfl⟩
        have := q (zs ++ ys) (by rw [setsV_append l1]; exact en2)
        rwa [setsV_append l1] at this
    · cases h
  · cases h
theorem run_tg {t : Tg} {v : V} {d : D} {Q : L2.St → Hp → Prop} (r : Rel K ρ H S) (en : EnvR K ρ H σ env) (hv : RD K ρ H v d) (h : setTg t d env = some env')
    (q : ∀ xs, EnvR K ρ H (setsV t.ix xs σ) env' → Q (setsV t.ix xs σ) H) : tgOf K t v σ H Q := by
  cases t with
  | nm i =>
    cases h
    exact q [v] (en.set hv)
  | t2 a b =>
    unfold setTg at h
    dsimp only at h
    split at h
    · cases hv with
      | tup hs hlen ha =>
        rename_i c xs
        obtain ⟨k1, k2⟩ := run_2 (σ := σ) (Q := Q) en ⟨hlen, ha⟩ h q
        exact .inl ⟨c, xs, rfl, hs, k2, k1⟩
    · cases hv with
      | vl hs hlen ha =>
        rename_i c xs
        obtain ⟨k1, k2⟩ := run_2 (σ := σ) (Q := Q) en ⟨hlen, ha⟩ h q
        exact .inr ⟨c, xs, rfl, hs.sq, k2, k1⟩
    · cases h
  | tp l =>
    unfold setTg at h
    dsimp only at h
    split at h
    · rename_i ds
      split at h
      · rename_i hl
        cases h
        cases hv with
        | tup hs hlen ha =>
          rename_i a xs
          exact .inl ⟨a, xs, rfl, hs, hlen.trans hl, run_names (hlen.trans hl) (q xs (en.sets ⟨hlen, ha⟩))⟩
      · cases h
    · rename_i ds
      split at h
      · rename_i hl
        cases h
        cases hv with
        | vl hs hlen ha =>
          rename_i a xs
          exact .inr ⟨a, xs, rfl, hs.sq, hlen.trans hl, run_names (hlen.trans hl) (q xs (en.sets ⟨hlen, ha⟩))⟩
      · cases h
    · cases h
theorem wipe_set {vs : List Nat} {i : Nat} {v : Option V} (hi : i ∈ vs) : ∀ σ : L2.St, wipe (σ.set i v) vs = wipe σ vs := by
  intro σ
  refine List.ext_getElem? fun j => ?_
  by_cases hj : j ∈ vs
  · by_cases h1 : j < σ.length
    · have e1 : ∀ τ : L2.St, j < τ.length → (wipe τ vs)[j]? = some none := fun τ hτ => by
        have hl : j < (wipe τ vs).length := by rw [wipe_length]; exact hτ
        cases q : (wipe τ vs)[j]? with
        | none => rw [List.getElem?_eq_none_iff] at q; omega
        | some o =>
          cases o with
          | none => rfl
          | some x => exact absurd hj (wipe_some q).2
      rw [e1 _ (by simpa using h1), e1 _ h1]
    · rw [List.getElem?_eq_none (by rw [wipe_length]; simp; omega), List.getElem?_eq_none (by rw [wipe_length]; omega)]
  · rw [wipe_out hj, wipe_out hj, List.getElem?_set_ne (fun z => hj (by rw [← z]; exact hi))]
theorem wipe_sets {vs : List Nat} : ∀ {l : List Nat} {xs : List V} {σ : L2.St}, (∀ i ∈ l, i ∈ vs) → wipe (setsV l xs σ) vs = wipe σ vs
  | [], xs, σ, _ => rfl
  | i :: l, [], σ, _ => rfl
  | i :: l, x :: xs, σ, h => by
    show wipe (setsV l xs (σ.set i (some x))) vs = _
    rw [wipe_sets (fun j hj => h j (List.mem_cons_of_mem _ hj)), wipe_set (h i List.mem_cons_self)]
def wipeE (env : Env) : List Nat → Env
  | [] => env
  | i :: vs => (wipeE env vs).set i none
theorem wipeE_length (env : Env) : ∀ vs, (wipeE env vs).length = env.length
  | [] => rfl
  | i :: vs => by
    show ((wipeE env vs).set i none).length = _
    rw [List.length_set, wipeE_length env vs]
theorem wipeE_some {env : Env} {i : Nat} {d : D} : ∀ {vs : List Nat}, (wipeE env vs)[i]? = some (some d) → env[i]? = some (some d) ∧ i ∉ vs
  | [], h => ⟨h, by simp⟩
  | j :: vs, h => by
    have h' : ((wipeE env vs).set j none)[i]? = some (some d) := h
    rw [List.getElem?_set] at h'
    by_cases hj : j = i
    · rw [if_pos hj] at h'
      split at h' <;> cases h'
    · rw [if_neg hj] at h'
      obtain ⟨a, b⟩ := wipeE_some h'
      exact ⟨a, by simp [Ne.symm hj, b]⟩
theorem EnvR.wipe (h : EnvR K ρ H σ env) (vs : List Nat) : EnvR K ρ H (L2.wipe σ vs) (wipeE env vs) := by
  refine ⟨by rw [wipe_length, wipeE_length, h.len], fun i d e => ?_⟩
  obtain ⟨e1, e2⟩ := wipeE_some e
  obtain ⟨v, h1, h2⟩ := h.at_ i d e1
  exact ⟨v, by rw [wipe_out e2]; exact h1, h2⟩
end
section
variable {X : Cx} {e a b : Expr} {es : List Expr} {fe : EF} {fs : AF} {pos : Pos}
theorem lg_nm (i : Nat) {x : Str} (hN : X.N.Nodup) (hi : X.N[i]? = some x := by rfl) (hx : Loc X.env.scope x := by first | exact Or.inl rfl | exact Or.inr rfl) (hf : X.fn x = true ∨ X.env.scope.names.lookup x = some .local := by first | exact .inl rfl | exact .inr rfl | assumption) : PG X (.Name x pos) (tgOf X.K (.nm i)) := pg_name hN hi hx hf
theorem lgs_nil : PGs X [] (gNames []) := pgs_nil
theorem lgs_cons {i : Nat} {l : List Nat} (h1 : PG X e (tgOf X.K (.nm i))) (h2 : PGs X es (gNames l)) (hs : (assignEach (e :: es) X.env).map (·.2) = assign e X.env :: (assignEach es X.env).map (·.2) := by rfl) : PGs X (e :: es) (gNames (i :: l)) := pgs_cons h1 h2 hs
theorem lg_tp {k : Nat} {l : List Nat} (hc : X.calm = true) (h : PGs X es (gNames l)) (hn : (assignEach es X.env).length = l.length := by rfl) (hst : (assignEach es X.env).findIdx? (·.1) = none := by rfl) : PG X (.Tuple es k pos) (tgOf X.K (.tp l)) := ⟨fun pins s σ H v u Q I r hw => hw.elim ((pg_tup hc h hn hst).run pins s σ H v u Q I r) ((pg_lst hc h hn hst).run pins s σ H v u Q I r)⟩
def sAsg (t : Tg) (f : EF) : SF := fun env S => match f env S with
  | some (d, S1) => match setTg t d env with
    | some e1 => some (.nx e1, S1)
    | none => none
  | none => none
def sPar (l : List Nat) (f : AF) : SF := fun env S => match f env S with
  | some (ds, S1) => if ds.length = l.length then some (.nx (setsE l ds env), S1) else none
  | none => none
def sSub (fo fi fe : EF) : SF := fun env S => match fe env S with
  | none => none
  | some (d, S1) => match fo env S1 with
    | some (.ref k, S2) => (match fi env S2 with
      | some (.int i, S3) => (match S3[k]? with
        | some (.lst es) => (match ixN es.length i with
          | some j => some (.nx env, S3.set k (.lst (es.set j d)))
          | none => none)
        | _ => none)
      | _ => none)
    | _ => none
theorem ls_sub {fo fi : EF} {o i : Expr} {ps : Pos} (he : PE X e (tE X.K fe)) (ho : PE X o (tE X.K fo)) (hi : PE X i (tE X.K fi)) (hg : ∀ {to ti : TE} {t : TSet}, PE X o to → PE X i ti → PSet X t → PG X (.Subscript o i ps) (gSub to ti t))
    (hs : swapsWithSole [.Subscript o i ps] e pos.line X.env = pure false := by rfl) (hw : swappedStores [.Subscript o i ps] e X.env = pure none := by rfl) (h1 : (assignEach [.Subscript o i ps] X.env).map (·.2) = [assign (.Subscript o i ps) X.env] := by rfl) : PS X (.Assign [.Subscript o i ps] e pos) (tS X.K (sSub fo fi fe)) :=
  (ps_asg he (hg ho hi set_list) (hs := hs) (hw := hw) (h1 := h1)).imp fun E σ H h => by
  obtain ⟨ρ, S, env, o, S', r, en, hf, q⟩ := h
  unfold sSub at hf
  split at hf
  · cases hf
  · rename_i d S1 h1
    split at hf
    · rename_i k S2 h2
      split at hf
      · rename_i i' S3 h3
        split at hf
        · rename_i es hc
          split at hf
          · rename_i j hj
            cases hf
            refine run_e r en h1 fun ρ1 H1 v1 x1 r1 hv1 en1 => run_e r1 en1 h2 fun ρ2 H2 v2 x2 r2 hv2 en2 => run_e r2 en2 h3 fun ρ3 H3 v3 x3 r3 hv3 en3 => ?_
            cases hv3
            have hv2' := hv2.ext r2 x3
            cases hv2' with
            | ref hr hkL =>
              rename_i p
              obtain ⟨xs, k1, k2⟩ := r3.cell _ _ _ hr hc
              refine ⟨p, xs, i', j, rfl, rfl, k1, by rw [k2.len]; exact hj, ?_⟩
              have hd := hv1.ext r1 (x2.trans x3)
              have xm := ext_mut (H := H3) (xs := xs.set j v1) (List.mem_of_getElem? hr)
              exact q ρ3 _ ((x1.trans (x2.trans x3)).trans xm) (r3.mutL hr (k2.set j hd)) σ (en3.ext r3 xm)
          · cases hf
        · cases hf
      · cases hf
    · cases hf
end
inductive Sq where
  | fix (ds : List D) | cell (n : Nat)
def Sq.get (S : Sto) : Sq → Option (List D)
  | .fix ds => some ds
  | .cell n => match S[n]? with
    | some c => c.its
    | none => none
def sqOf : D → Option Sq
  | .vl ds => some (.fix ds)
  | .ref n => some (.cell n)
  | _ => none
inductive Src where
  | fix (ds : List D) | cell (n : Nat) | zip (a b : Sq) | enum (a : Sq)
def nextD (S : Sto) (i : Nat) : Src → Option (Option D)
  | .fix ds => some ds[i]?
  | .cell n => match S[n]? with
    | some c => c.its.map fun ds => ds[i]?
    | none => none
  | .zip a b => match a.get S, b.get S with
    | some c, some e => (match c[i]?, e[i]? with
      | some x, some y => some (some (.tup [x, y]))
      | _, _ => some none)
    | _, _ => none
  | .enum a => match a.get S with
    | some c => (match c[i]? with
      | some x => some (some (.tup [.int i, x]))
      | _ => some none)
    | none => none
def SrcOk (K : PySem.W.Frag) (ρ : List Addr) (H : Hp) (J : It) (src : Src) : Prop := ∀ ρ2 H2 S2 i, Ext ρ H ρ2 H2 → Rel K ρ2 H2 S2 → match nextD S2 i src with
  | none => True
  | some none => J.stop i H2
  | some (some d) => J.go i H2 ∧ ∀ x H3, J.yld i H2 x H3 → Ext ρ2 H2 ρ2 H3 ∧ Rel K ρ2 H3 S2 ∧ RD K ρ2 H3 x d
abbrev IFn := Env → Sto → Option (Src × Sto)
def tI (K : PySem.W.Frag) (f : IFn) : TI := fun σ H R => ∃ ρ S env src S', Rel K ρ H S ∧ EnvR K ρ H σ env ∧ f env S = some (src, S') ∧
  ∀ ρ' H' J, Ext ρ H ρ' H' → Rel K ρ' H' S' → SrcOk K ρ' H' J src → R J H'
theorem _root_.L2.PI.imp {X : Cx} {tg e : Expr} {t t' : TI} (h : PI X tg e t) (i : ∀ σ H Q, t' σ H Q → t σ H Q) : PI X tg e t' := ⟨fun pins s σ H Q I q => h.run pins s σ H Q I (i σ H Q q)⟩
theorem _root_.L2.PI.or {X : Cx} {tg e : Expr} {t t' : TI} (h : PI X tg e t) (h' : PI X tg e t') : PI X tg e (fun σ H R => t σ H R ∨ t' σ H R) := ⟨fun pins s σ H Q I q => q.elim (h.run pins s σ H Q I) (h'.run pins s σ H Q I)⟩
def iSeq (f : EF) : IFn := fun env S => match f env S with
  | some (.ref n, S1) => some (.cell n, S1)
  | some (.tup ds, S1) => some (.fix ds, S1)
  | some (.vl ds, S1) => some (.fix ds, S1)
  | _ => none
def SqOk (K : PySem.W.Frag) (ρ : List Addr) (H : Hp) (p : Addr) (s : Sq) : Prop := ∀ ρ2 H2 S2 ds, Ext ρ H ρ2 H2 → Rel K ρ2 H2 S2 → s.get S2 = some ds → ∃ xs, SqL K H2 p xs ∧ RDs K ρ2 H2 xs ds
theorem sq_of {K : PySem.W.Frag} {ρ : List Addr} {H : Hp} {S : Sto} (r : Rel K ρ H S) {v : V} {d : D} {s : Sq} (hv : RD K ρ H v d) (h : sqOf d = some s) : ∃ p, v = .ref p ∧ SqOk K ρ H p s ∧ ∃ ds, s.get S = some ds := by
  cases hv with
  | vl hs hl ha =>
    cases h
    refine ⟨_, rfl, fun ρ2 H2 S2 ds x r2 hg => ?_, _, rfl⟩
    cases hg
    have h2 := RD.ext r x (.vl hs hl ha)
    cases h2 with
    | vl hs2 hl2 ha2 => exact ⟨_, hs2.sq, hl2, ha2⟩
  | ref hr hkL =>
    cases h
    obtain ⟨c, hc, hok⟩ := r.of hr
    refine ⟨_, rfl, fun ρ2 H2 S2 ds x r2 hg => ?_, c.items, ?_⟩
    · simp only [Sq.get] at hg
      split at hg
      · rename_i c2 hc2
        exact r2.seq (x.get hr) hc2 hg
      · cases hg
    · simp only [Sq.get, hc]
      exact hok.isl hkL
  | _ => cases h
section
variable {X : Cx} {K : PySem.W.Frag} {tg e a b : Expr} {fe : EF} {fs : AF} {p pos : Pos}
theorem src_cell {ρ : List Addr} {H : Hp} {n : Nat} {q : Addr} (hq : ρ[n]? = some q) (hkL : IsL H q) : SrcOk K ρ H (Itl K q) (.cell n) := fun ρ2 H2 S2 i x r => by
  have h2 := x.get hq
  obtain ⟨c, hc, hok⟩ := r.of h2
  have hit := hok.isl (x.kind _ (List.mem_of_getElem? hq) hkL)
  obtain ⟨xs, hs, hr⟩ := r.seq h2 hc hit
  have hnx : nextD S2 i (.cell n) = some c.items[i]? := by
    show (match S2[n]? with | some c => c.its.map (fun ds => ds[i]?) | none => none) = _
    rw [hc]
    dsimp only
    rw [hit]
    rfl
  rw [hnx]
  cases h : c.items[i]? with
  | none =>
    refine ⟨xs, hs, ?_⟩
    rw [hr.len]
    exact List.getElem?_eq_none_iff.mp h
  | some d =>
    obtain ⟨v, hv, hd⟩ := hr.get h
    refine ⟨⟨xs, v, hs, hv⟩, fun y H3 hy => ?_⟩
    obtain ⟨rfl, hy⟩ := hy
    have e : y = v := Option.some.inj ((hy xs hs).symm.trans hv)
    rw [e]
    exact ⟨Ext.refl _ _, r, hd⟩
theorem src_tup {ρ : List Addr} {H : Hp} {S : Sto} {q : Addr} {xs : List V} {ds : List D} (r0 : Rel K ρ H S) (hq : SqT K H q xs) (hx : RDs K ρ H xs ds) : SrcOk K ρ H (Itt K q) (.fix ds) := fun ρ2 H2 S2 i x r => by
  have hs := SqT.ext r0 x hq
  have hr := hx.ext r0 x
  simp only [nextD]
  cases h : ds[i]? with
  | none =>
    refine ⟨xs, hs, ?_⟩
    rw [hr.len]
    exact List.getElem?_eq_none_iff.mp h
  | some d =>
    obtain ⟨v, hv, hd⟩ := hr.get h
    refine ⟨⟨xs, v, hs, hv⟩, fun y H3 hy => ?_⟩
    obtain ⟨rfl, hy⟩ := hy
    have e : y = v := Option.some.inj ((hy xs hs).symm.trans hv)
    rw [e]
    exact ⟨Ext.refl _ _, r, hd⟩
theorem src_vl {ρ : List Addr} {H : Hp} {S : Sto} {q : Addr} {ds : List D} (r0 : Rel K ρ H S) (hq : RD K ρ H (.ref q) (.vl ds)) : SrcOk K ρ H (Itl K q) (.fix ds) := fun ρ2 H2 S2 i x r => by
  have hq2 := RD.ext r0 x hq
  cases hq2 with
  | vl hs hl ha =>
    rename_i xs
    have hr : RDs K ρ2 H2 xs ds := ⟨hl, ha⟩
    have hsq : SqL K H2 q xs := hs.sq
    simp only [nextD]
    cases h : ds[i]? with
    | none =>
      refine ⟨xs, hsq, ?_⟩
      rw [hr.len]
      exact List.getElem?_eq_none_iff.mp h
    | some d =>
      obtain ⟨v, hv, hd⟩ := hr.get h
      refine ⟨⟨xs, v, hsq, hv⟩, fun y H3 hy => ?_⟩
      obtain ⟨rfl, hy⟩ := hy
      have e : y = v := Option.some.inj ((hy xs hsq).symm.trans hv)
      rw [e]
      exact ⟨Ext.refl _ _, r, hd⟩
theorem li_seq (h : PE X e (tE X.K fe)) : PI X tg e (tI X.K (iSeq fe)) := (PI.or (pi_list h) (pi_tup h)).imp fun σ H R q0 => by
  obtain ⟨ρ, S, env, src, S', r, en, hf, q⟩ := q0
  unfold iSeq at hf
  split at hf
  · rename_i n S1 h1
    cases hf
    refine .inl (run_e r en h1 fun ρ1 H1 v1 x1 r1 hv1 en1 => ?_)
    cases hv1 with
    | ref hr hkL =>
      rename_i p
      obtain ⟨c, hc, hok⟩ := r1.of hr
      obtain ⟨xs, hs, _⟩ := r1.seq hr hc (hok.isl hkL)
      exact ⟨p, rfl, ⟨xs, hs⟩, q ρ1 H1 _ x1 r1 (src_cell hr hkL)⟩
  · rename_i ds S1 h1
    cases hf
    refine .inr (run_e r en h1 fun ρ1 H1 v1 x1 r1 hv1 en1 => ?_)
    cases hv1 with
    | tup hs hl ha =>
      rename_i p xs
      exact ⟨p, rfl, ⟨xs, hs⟩, q ρ1 H1 _ x1 r1 (src_tup r1 hs ⟨hl, ha⟩)⟩
  · rename_i ds S1 h1
    cases hf
    refine .inl (run_e r en h1 fun ρ1 H1 v1 x1 r1 hv1 en1 => ?_)
    have hv2 := hv1
    cases hv1 with
    | vl hs hl ha =>
      rename_i p xs
      exact ⟨p, rfl, ⟨xs, hs.sq⟩, q ρ1 H1 _ x1 r1 (src_vl r1 hv2)⟩
  · cases hf
end
end Lv
namespace Lv
open PySem PySem.Spec PyProof.Rows L2
mutual
def noRef : D → Bool
  | .ty _ => true
  | .kl ds => noRefs ds
  | .vl ds => noRefs ds
  | .non => true
  | .bl _ => true
  | .int _ => true
  | .str _ => true
  | .tup ds => noRefs ds
  | .ref _ => false
  | .dv _ ds => noRefs ds
  | .gl _ => true
  | .exc _ d => noRef d
  | .lam _ _ _ _ _ ds => noRefs ds
def noRefs : List D → Bool
  | [] => true
  | d :: ds => noRef d && noRefs ds
end
inductive Below (n : Nat) : D → Prop
  | ty (s : String) : Below n (.ty s)
  | kl (ds : List D) : (∀ d ∈ ds, Below n d) → Below n (.kl ds)
  | vl (ds : List D) : (∀ d ∈ ds, Below n d) → Below n (.vl ds)
  | non : Below n .non
  | bl (b : Bool) : Below n (.bl b)
  | int (i : Int) : Below n (.int i)
  | str (x : Str) : Below n (.str x)
  | tup (ds : List D) : (∀ d ∈ ds, Below n d) → Below n (.tup ds)
  | ref (k : Nat) : k < n → Below n (.ref k)
  | dv (ks : List Key) (ds : List D) : (∀ d ∈ ds, Below n d) → Below n (.dv ks ds)
  | gl (m : Str) : Below n (.gl m)
  | exc (m : Str) (d : D) : Below n d → Below n (.exc m d)
  | lam (f c : Addr) (q : Str) (σ : List (Option V)) (ix : List Nat) (ds : List D) : (∀ d ∈ ds, Below n d) → Below n (.lam f c q σ ix ds)
mutual
theorem nr_below {n : Nat} : ∀ d : D, noRef d = true → Below n d
  | .ty s, _ => .ty s
  | .kl ds, h => .kl ds (nrs_below ds h)
  | .vl ds, h => .vl ds (nrs_below ds h)
  | .non, _ => .non
  | .bl b, _ => .bl b
  | .int i, _ => .int i
  | .str x, _ => .str x
  | .tup ds, h => .tup ds (nrs_below ds h)
  | .ref k, h => by cases h
  | .dv ks ds, h => .dv ks ds (nrs_below ds h)
  | .gl m, _ => .gl m
  | .exc m d, h => .exc m d (nr_below d h)
  | .lam f c q σ ix ds, h => .lam f c q σ ix ds (nrs_below ds h)
theorem nrs_below {n : Nat} : ∀ ds : List D, noRefs ds = true → ∀ d ∈ ds, Below n d
  | [], _ => fun d hd => by cases hd
  | e :: es, h => fun d hd => by
    have h' : noRef e = true ∧ noRefs es = true := by
      rw [← Bool.and_eq_true]; exact h
    have h1 := nr_below (n := n) e h'.1
    have h2 := nrs_below (n := n) es h'.2
    rcases List.mem_cons.mp hd with rfl | hd
    · exact h1
    · exact h2 d hd
end
theorem noRefs_of : ∀ {ds : List D}, (∀ d ∈ ds, noRef d = true) → noRefs ds = true
  | [], _ => rfl
  | e :: es, h => by
    unfold noRefs
    rw [h e List.mem_cons_self, noRefs_of fun d hd => h d (List.mem_cons_of_mem _ hd)]
    rfl
section
variable {K : PySem.W.Frag} {ρ ρ' more : List Addr} {H H' : Hp} {S S' S0 : Sto}
theorem all_at {xs : List V} {ds : List D} {p : D → Prop} (hl : xs.length = ds.length) (h : ∀ (i : Nat) x d, xs[i]? = some x → ds[i]? = some d → p d) : ∀ d ∈ ds, p d := by
  intro d hd
  obtain ⟨i, hi⟩ := List.getElem?_of_mem hd
  have hx : i < xs.length := by rw [hl]; exact (List.getElem?_eq_some_iff.mp hi).1
  exact h i _ d (List.getElem?_eq_getElem hx) hi
theorem below_rd {v : V} {d : D} (h : RD K ρ H v d) : Below ρ.length d := by
  induction h with
  | ty n => exact .ty n
  | kl hs hl ha ih => exact .kl _ (all_at hl ih)
  | vl hs hl ha ih => exact .vl _ (all_at hl ih)
  | non => exact .non
  | bl b => exact .bl b
  | int i => exact .int i
  | str x => exact .str x
  | tup hs hl ha ih => exact .tup _ (all_at hl ih)
  | ref h hkL => exact .ref _ (List.getElem?_eq_some_iff.mp h).1
  | dv hs hn hk hl ha ih => exact .dv _ _ (all_at (by rw [List.length_map]; exact hl) ih)
  | gl h => exact .gl _
  | exc h1 h2 h3 h4 h5 h6 h7 ih => exact .exc _ _ ih
  | excN h1 h2 h3 => exact .exc _ _ (.ty _)
  | lam h1 h2 hl ha h5 ih => exact .lam _ _ _ _ _ _ (all_at hl ih)
theorem RD.change {ρ1 ρ2 : List Addr} {n : Nat} {v : V} {d : D} (h : RD K ρ1 H v d) (hb : ∀ (k : Nat) a, k < n → ρ1[k]? = some a → ρ2[k]? = some a) (hs : ∀ a, a ∈ ρ2 → a ∈ ρ1) : Below n d → RD K ρ2 H v d := by
  induction h with
  | ty n => exact fun _ => .ty n
  | kl hs hl ha ih => exact fun b => by cases b with | kl _ b => exact .kl hs hl fun i x d h1 h2 => ih i x d h1 h2 (b d (List.mem_of_getElem? h2))
  | vl hf hl ha ih => exact fun b => by cases b with | vl _ b => exact .vl ⟨hf.1, fun hm => hf.2 (hs _ hm)⟩ hl fun i x d h1 h2 => ih i x d h1 h2 (b d (List.mem_of_getElem? h2))
  | non => exact fun _ => .non
  | bl b => exact fun _ => .bl b
  | int i => exact fun _ => .int i
  | str x => exact fun _ => .str x
  | tup hs hl ha ih => exact fun b => by cases b with | tup _ b => exact .tup hs hl fun i x d h1 h2 => ih i x d h1 h2 (b d (List.mem_of_getElem? h2))
  | ref h hkL => exact fun b => by cases b with | ref _ b => exact .ref (hb _ _ b h) hkL
  | dv h hn hk hl ha ih => exact fun b => by cases b with | dv _ _ b => exact .dv h (fun hm => hn (hs _ hm)) hk hl fun i x d h1 h2 => ih i x d h1 h2 (b d (List.mem_of_getElem? h2))
  | gl h => exact fun _ => .gl h
  | exc h1 h2 h3 h4 h5 h6 h7 ih => exact fun b => by cases b with | exc _ _ b => exact .exc h1 h2 h3 (fun hm => h4 (hs _ hm)) (fun hm => h5 (hs _ hm)) h6 (ih b)
  | excN h1 h2 h3 => exact fun _ => .excN h1 h2 (fun hm => h3 (hs _ hm))
  | lam h1 h2 hl ha h5 ih => exact fun b => by cases b with | lam _ _ _ _ _ _ b => exact .lam h1 (fun hm => h2 (hs _ hm)) hl (fun i x d k1 k2 => ih i x d k1 k2 (b d (List.mem_of_getElem? k2))) h5
theorem RD.shrink {v : V} {d : D} (h : RD K (ρ ++ more) H v d) (b : Below ρ.length d) : RD K ρ H v d :=
  h.change (fun k a hk e => by rw [List.getElem?_append_left hk] at e; exact e) (fun a ha => List.mem_append_left _ ha) b
theorem FL.shrink {a : Addr} {xs : List V} (h : FL (ρ ++ more) H a xs) : FL ρ H a xs := ⟨h.1, fun hm => h.2 (List.mem_append_left _ hm)⟩
end
def fz (n0 : Nat) (S : Sto) : Nat → D → Option D
  | 0, d => if noRef d then some d else none
  | k + 1, d => if noRef d then some d else match d with
    | .ref n => if n < n0 then some (.ref n) else (match S[n]? with
      | some (.lst ds) => (match mapO (fz n0 S k) ds with
        | some es => some (.vl es)
        | none => none)
      | _ => none)
    | .tup ds => (match mapO (fz n0 S k) ds with
      | some es => some (.tup es)
      | none => none)
    | .vl ds => (match mapO (fz n0 S k) ds with
      | some es => some (.vl es)
      | none => none)
    | .exc n v => (match fz n0 S k v with
      | some w => some (.exc n w)
      | none => none)
    | _ => none
theorem mapO_len {α β : Type} {f : α → Option β} : ∀ {xs : List α} {ys : List β}, mapO f xs = some ys → xs.length = ys.length
  | [], ys, h => by cases h; rfl
  | x :: xs, zs, h => by
    obtain ⟨y, ys, h1, h2, rfl⟩ := mapO_cons h
    simp [mapO_len h2]
theorem mapO_at {α β : Type} {f : α → Option β} : ∀ {xs : List α} {ys : List β}, mapO f xs = some ys → ∀ (i : Nat) y, ys[i]? = some y → ∃ x, xs[i]? = some x ∧ f x = some y
  | [], ys, h, i, y, hy => by cases h; simp at hy
  | x :: xs, zs, h, i, y, hy => by
    obtain ⟨y0, ys, h1, h2, rfl⟩ := mapO_cons h
    cases i with
    | zero => cases hy; exact ⟨x, rfl, h1⟩
    | succ i => exact mapO_at h2 i y hy
theorem nodup_app_notin {ρ more : List Addr} (h : (ρ ++ more).Nodup) {n : Nat} {a : Addr} (hn : ρ.length ≤ n) (ha : (ρ ++ more)[n]? = some a) : a ∉ ρ := by
  intro hm
  rw [List.getElem?_append_right hn] at ha
  exact (List.nodup_append.mp h).2.2 a hm a (List.mem_of_getElem? ha) rfl
theorem fz_rd {K : PySem.W.Frag} {ρ more : List Addr} {H : Hp} {S : Sto} (r : Rel K (ρ ++ more) H S) : ∀ (k : Nat) (v : V) (d d' : D), RD K (ρ ++ more) H v d → fz ρ.length S k d = some d' → RD K ρ H v d'
  | 0, v, d, d', hv, h => by
    unfold fz at h
    split at h
    · rename_i hn
      cases h
      exact hv.shrink (nr_below _ hn)
    · cases h
  | k + 1, v, d, d', hv, h => by
    unfold fz at h
    split at h
    · rename_i hn
      cases h
      exact hv.shrink (nr_below _ hn)
    · have go : ∀ {xs : List V} {ds es : List D}, RDs K (ρ ++ more) H xs ds → mapO (fz ρ.length S k) ds = some es → RDs K ρ H xs es := fun q hm => by
        refine ⟨q.len.trans (mapO_len hm), fun i x e hx he => ?_⟩
        obtain ⟨d0, h1, h2⟩ := mapO_at hm i e he
        exact fz_rd r k x d0 e (q.at_ i x d0 hx h1) h2
      split at h
      · rename_i n
        split at h
        · rename_i hlt
          cases h
          exact hv.shrink (.ref _ hlt)
        · rename_i hge
          split at h
          · rename_i ds hc
            split at h
            · rename_i es hm
              cases h
              cases hv with
              | ref hr hkL =>
                rename_i a
                obtain ⟨xs, h1, h2⟩ := r.cell _ _ _ hr hc
                have q := go h2 hm
                exact .vl ⟨h1, nodup_app_notin r.nd (Nat.le_of_not_lt hge) hr⟩ q.len q.at_
            · cases h
          · cases h
      · split at h
        · rename_i es hm
          cases h
          cases hv with
          | tup hs hl ha =>
            have q := go ⟨hl, ha⟩ hm
            exact .tup hs q.len q.at_
        · cases h
      · split at h
        · rename_i es hm
          cases h
          cases hv with
          | vl hs hl ha =>
            have q := go ⟨hl, ha⟩ hm
            exact .vl hs.shrink q.len q.at_
        · cases h
      · split at h
        · rename_i w hm
          cases h
          cases hv with
          | exc h1 h2 h3 h4 h5 h6 h7 => exact .exc h1 h2 h3 (fun q => h4 (List.mem_append_left _ q)) (fun q => h5 (List.mem_append_left _ q)) h6 (fz_rd r k _ _ _ h7 hm)
          | excN h1 h2 h3 =>
            have e : w = .ty "#" := by cases k <;> simp [fz, noRef] at hm <;> exact hm.symm
            subst e
            exact .excN h1 h2 (fun q => h3 (List.mem_append_left _ q))
        · cases h
      · cases h
mutual
def eqB : D → D → Bool
  | .ty a, e => match e with
    | .ty b => decide (a = b)
    | _ => false
  | .kl a, e => match e with
    | .kl b => eqBs a b
    | _ => false
  | .vl a, e => match e with
    | .vl b => eqBs a b
    | _ => false
  | .non, e => match e with
    | .non => true
    | _ => false
  | .bl a, e => match e with
    | .bl b => a == b
    | _ => false
  | .int a, e => match e with
    | .int b => decide (a = b)
    | _ => false
  | .str a, e => match e with
    | .str b => decide (a = b)
    | _ => false
  | .tup a, e => match e with
    | .tup b => eqBs a b
    | _ => false
  | .ref a, e => match e with
    | .ref b => decide (a = b)
    | _ => false
  | .dv k a, e => match e with
    | .dv j b => decide (k = j) && eqBs a b
    | _ => false
  | .gl a, e => match e with
    | .gl b => decide (a = b)
    | _ => false
  | .exc n a, e => match e with
    | .exc m b => decide (n = m) && eqB a b
    | _ => false
  | .lam f c q σ ix a, e => match e with
    | .lam f' c' q' σ' ix' b => decide (f = f' ∧ c = c' ∧ q = q' ∧ σ = σ' ∧ ix = ix') && eqBs a b
    | _ => false
def eqBs : List D → List D → Bool
  | [], e => match e with
    | [] => true
    | _ => false
  | a :: as, e => match e with
    | b :: bs => eqB a b && eqBs as bs
    | _ => false
end
mutual
theorem eqB_is : ∀ a b : D, eqB a b = true → a = b
  | .ty a, b, h => by cases b <;> simp_all [eqB]
  | .kl a, b, h => by
    cases b <;> simp only [eqB] at h <;> first | exact congrArg _ (eqBs_is a _ h) | cases h
  | .vl a, b, h => by
    cases b <;> simp only [eqB] at h <;> first | exact congrArg _ (eqBs_is a _ h) | cases h
  | .non, b, h => by cases b <;> simp_all [eqB]
  | .bl a, b, h => by cases b <;> simp_all [eqB]
  | .int a, b, h => by cases b <;> simp_all [eqB]
  | .str a, b, h => by cases b <;> simp_all [eqB]
  | .tup a, b, h => by
    cases b <;> simp only [eqB] at h <;> first | exact congrArg _ (eqBs_is a _ h) | cases h
  | .ref a, b, h => by cases b <;> simp_all [eqB]
  | .dv k a, b, h => by
    cases b <;> simp only [eqB, Bool.and_eq_true, decide_eq_true_eq] at h <;> first | (rw [h.1, eqBs_is a _ h.2]) | cases h
  | .gl a, b, h => by cases b <;> simp_all [eqB]
  | .exc n a, b, h => by
    cases b <;> simp only [eqB, Bool.and_eq_true, decide_eq_true_eq] at h <;> first | (rw [h.1, eqB_is a _ h.2]) | cases h
  | .lam f c q σ ix a, b, h => by
    cases b <;> simp only [eqB, Bool.and_eq_true, decide_eq_true_eq] at h <;> first | (rw [h.1.1, h.1.2.1, h.1.2.2.1, h.1.2.2.2.1, h.1.2.2.2.2, eqBs_is a _ h.2]) | cases h
theorem eqBs_is : ∀ a b : List D, eqBs a b = true → a = b
  | [], b, h => by cases b <;> simp_all [eqBs]
  | a :: as, b, h => by
    cases b with
    | nil => simp only [eqBs] at h; cases h
    | cons b bs =>
      simp only [eqBs, Bool.and_eq_true] at h
      rw [eqB_is a b h.1, eqBs_is as bs h.2]
end
mutual
theorem eqB_rfl : ∀ a : D, eqB a a = true
  | .ty a => by simp [eqB]
  | .kl a => by simp only [eqB]; exact eqBs_rfl a
  | .vl a => by simp only [eqB]; exact eqBs_rfl a
  | .non => by simp [eqB]
  | .bl a => by simp [eqB]
  | .int a => by simp [eqB]
  | .str a => by simp [eqB]
  | .tup a => by simp only [eqB]; exact eqBs_rfl a
  | .ref a => by simp [eqB]
  | .dv k a => by simp only [eqB, eqBs_rfl a, Bool.and_true, decide_true]
  | .gl a => by simp [eqB]
  | .exc n a => by simp only [eqB, eqB_rfl a, Bool.and_true, decide_true]
  | .lam f c q σ ix a => by simp [eqB, eqBs_rfl a]
theorem eqBs_rfl : ∀ a : List D, eqBs a a = true
  | [] => by simp [eqBs]
  | a :: as => by simp only [eqBs, eqB_rfl a, eqBs_rfl as, Bool.and_true]
end
def eqC : Cell → Cell → Bool
  | .lst a, .lst b => eqBs a b
  | .frz a, .frz b => eqBs a b
  | .dic k a, .dic j b => decide (k = j) && eqBs a b
  | .dit k a, .dit j b => decide (k = j) && eqBs a b
  | .tbl a a', .tbl b b' => decide (a = b) && decide (a' = b')
  | _, _ => false
theorem eqC_is {a b : Cell} (h : eqC a b = true) : a = b := by
  cases a <;> cases b <;> simp only [eqC, Bool.and_eq_true, decide_eq_true_eq] at h <;> first | cases h; done | skip
  · rw [eqBs_is _ _ h]
  · rw [eqBs_is _ _ h]
  · rw [h.1, eqBs_is _ _ h.2]
  · rw [h.1, eqBs_is _ _ h.2]
  · rw [h.1, h.2]
theorem eqC_rfl (a : Cell) : eqC a a = true := by cases a <;> simp [eqC, eqBs_rfl]
def oldL (p : Cell → Bool) : Sto → Sto → Bool
  | [], _ => true
  | c :: S0, S => match S with
    | c' :: S => (eqC c' c || p c') && oldL p S0 S
    | [] => false
theorem oldL_iff {p : Cell → Bool} : ∀ {S0 S : Sto}, oldL p S0 S = true ↔ (S0.length ≤ S.length ∧ ∀ i, i < S0.length → S[i]? = S0[i]? ∨ ∃ c, S[i]? = some c ∧ p c = true)
  | [], S => by simp [oldL]
  | c :: S0, [] => by simp [oldL]
  | c :: S0, c' :: S => by
    simp only [oldL, Bool.and_eq_true, Bool.or_eq_true, oldL_iff (S0 := S0) (S := S), List.length_cons]
    constructor
    · rintro ⟨h, hl, ha⟩
      refine ⟨by omega, fun i hi => ?_⟩
      cases i with
      | zero =>
        rcases h with h | h
        · rw [eqC_is h]; exact .inl rfl
        · exact .inr ⟨c', rfl, h⟩
      | succ i =>
        rw [List.getElem?_cons_succ, List.getElem?_cons_succ]
        exact ha i (by omega)
    · rintro ⟨hl, ha⟩
      refine ⟨?_, by omega, fun i hi => ?_⟩
      · rcases ha 0 (by omega) with h | ⟨d, h, hp⟩
        · cases h; exact .inl (eqC_rfl _)
        · cases h; exact .inr hp
      · have := ha (i + 1) (by omega)
        rw [List.getElem?_cons_succ, List.getElem?_cons_succ] at this
        exact this
def OldOk (S0 S : Sto) : Prop := S0.length ≤ S.length ∧ ∀ i, i < S0.length → S[i]? = S0[i]? ∨ ∃ c, S[i]? = some c ∧ noRefs c.items = true
instance {S0 S : Sto} : Decidable (OldOk S0 S) := decidable_of_iff (oldL (fun c => noRefs c.items) S0 S = true) oldL_iff
def shut (S0 : Sto) (z : D) (S : Sto) : Option (D × Sto) := if OldOk S0 S then (match fz S0.length S 20 z with
  | some z' => some (z', S.take S0.length)
  | none => none) else none

def shutR (S0 : Sto) (z : D) (S : Sto) : Option (D × Sto) := if OldOk S0 S then (match z with
  | .ref n => if n < S0.length then none else (match S[n]? with
    | some (.lst ds) => if noRefs ds then some (.ref S0.length, S.take S0.length ++ [.lst ds]) else none
    | _ => none)
  | .vl _ => none
  | z => if noRef z then some (z, S.take S0.length) else none) else none
section
variable {K : PySem.W.Frag} {ρ ρ' : List Addr} {H H' : Hp} {S S' S0 : Sto} {v : V} {z z' : D}
theorem Ext.back (e : Ext ρ H ρ' H') : Ext ρ H ρ H' := ⟨⟨[], by simp⟩, fun p h n => absurd h n, e.keep, e.kind⟩
theorem cells_take (r : Rel K ρ H S0) (e : Ext ρ H ρ' H') (r' : Rel K ρ' H' S) (ho : OldOk S0 S) {ρ2 : List Addr} (hb : ∀ (k : Nat) a, k < ρ.length → ρ'[k]? = some a → ρ2[k]? = some a) (hs : ∀ a, a ∈ ρ2 → a ∈ ρ') :
    ∀ (n : Nat) a c, ρ[n]? = some a → (S.take S0.length)[n]? = some c → CellOk K ρ2 H' a c := by
  intro n a c h1 h2
  have hn : n < ρ.length := (List.getElem?_eq_some_iff.mp h1).1
  have hn0 : n < S0.length := by rw [← r.len]; exact hn
  rw [List.getElem?_take, if_pos hn0] at h2
  have q := r'.cell n a c (e.get h1) h2
  have below : ∀ d ∈ c.items, Below ρ.length d := by
    rcases ho.2 n hn0 with h | ⟨c', h, hr⟩
    · rw [h2] at h
      have q0 := r.cell n a c h1 h.symm
      cases c with
      | lst ds => obtain ⟨xs, _, q0⟩ := q0; exact all_at q0.len fun i x d a b => below_rd (q0.at_ i x d a b)
      | frz ds => obtain ⟨xs, _, _, q0⟩ := q0; exact all_at q0.len fun i x d a b => below_rd (q0.at_ i x d a b)
      | dic ks ds => obtain ⟨xs, _, _, q0⟩ := q0; exact all_at q0.len fun i x d a b => below_rd (q0.at_ i x d a b)
      | dit ks ds => obtain ⟨xs, _, _, q0⟩ := q0; exact all_at q0.len fun i x d a b => below_rd (q0.at_ i x d a b)
      | tbl z1 z => exact fun d hd => by cases hd
    · rw [h2] at h
      cases h
      exact nrs_below _ hr
  cases c with
  | lst ds => obtain ⟨xs, e1, q⟩ := q; exact ⟨xs, e1, q.len, fun i x d a b => (q.at_ i x d a b).change hb hs (below d (List.mem_of_getElem? b))⟩
  | frz ds => obtain ⟨xs, o, e1, q⟩ := q; exact ⟨xs, o, e1, q.len, fun i x d a b => (q.at_ i x d a b).change hb hs (below d (List.mem_of_getElem? b))⟩
  | dic ks ds => obtain ⟨xs, e1, e0, q⟩ := q; exact ⟨xs, e1, e0, q.len, fun i x d a b => (q.at_ i x d a b).change hb hs (below d (List.mem_of_getElem? b))⟩
  | dit ks ds => obtain ⟨xs, e1, e0, q⟩ := q; exact ⟨xs, e1, e0, q.len, fun i x d a b => (q.at_ i x d a b).change hb hs (below d (List.mem_of_getElem? b))⟩
  | tbl z1 z =>
    obtain ⟨e0, ps, e1, e2, q⟩ := q
    refine ⟨e0, ps, e1, e2, fun pos cv hc => ?_⟩
    obtain ⟨c, k1, k2, k3⟩ := q pos cv hc
    exact ⟨c, k1, fun hm => k2 (hs _ hm), k3⟩
theorem take_len (r : Rel K ρ H S0) (ho : OldOk S0 S) : (S.take S0.length).length = ρ.length := by rw [List.length_take, r.len]; exact Nat.min_eq_left ho.1
theorem rel_take (r : Rel K ρ H S0) (e : Ext ρ H ρ' H') (r' : Rel K ρ' H' S) (ho : OldOk S0 S) : Rel K ρ H' (S.take S0.length) := by
  have hc := cells_take r e r' ho (ρ2 := ρ)
  obtain ⟨more, rfl⟩ := e.pre
  exact ⟨(take_len r ho).symm, r.nd, hc (fun k a hk q => by rw [List.getElem?_append_left hk] at q; exact q) fun a ha => List.mem_append_left _ ha⟩
theorem seal_ok (r : Rel K ρ H S0) (e : Ext ρ H ρ' H') (r' : Rel K ρ' H' S) (hv : RD K ρ' H' v z) (hs : shut S0 z S = some (z', S')) : Ext ρ H ρ H' ∧ Rel K ρ H' S' ∧ RD K ρ H' v z' := by
  unfold shut at hs
  split at hs
  · rename_i ho
    split at hs
    · rename_i z2 hz
      cases hs
      refine ⟨e.back, rel_take r e r' ho, ?_⟩
      obtain ⟨more, rfl⟩ := e.pre
      rw [← r.len] at hz
      exact fz_rd r' _ v z z' hv hz
    · cases hs
  · cases hs
theorem sealR_ok (r : Rel K ρ H S0) (e : Ext ρ H ρ' H') (r' : Rel K ρ' H' S) (hv : RD K ρ' H' v z) (hs : shutR S0 z S = some (z', S')) : ∃ ρ2, Ext ρ H ρ2 H' ∧ Rel K ρ2 H' S' ∧ RD K ρ2 H' v z' := by
  unfold shutR at hs
  split at hs
  · rename_i ho
    split at hs
    · rename_i n
      split at hs
      · cases hs
      · rename_i hge
        split at hs
        · rename_i ds hc
          split at hs
          · rename_i hm
            cases hs
            cases hv with
            | ref hr hkL =>
              rename_i p
              have hc2 := cells_take r e r' ho (ρ2 := ρ ++ [p])
              have hl := take_len r ho
              obtain ⟨more, rfl⟩ := e.pre
              have hp : p ∉ ρ := nodup_app_notin r'.nd (by rw [r.len]; exact Nat.le_of_not_lt hge) hr
              have hH : H p = none := e.new p (List.mem_of_getElem? hr) hp
              have hbk : ∀ (k : Nat) a, k < ρ.length → (ρ ++ more)[k]? = some a → (ρ ++ [p])[k]? = some a := fun k a hk q => by
                rw [List.getElem?_append_left hk] at q ⊢
                exact q
              have hmm : ∀ a, a ∈ ρ ++ [p] → a ∈ ρ ++ more := fun a ha => by
                rcases List.mem_append.mp ha with ha | ha
                · exact List.mem_append_left _ ha
                · rw [List.mem_singleton.mp ha]; exact List.mem_of_getElem? hr
              obtain ⟨xs, h1, h2⟩ := r'.cell _ _ _ hr hc
              refine ⟨ρ ++ [p], ⟨⟨[p], rfl⟩, fun b hb hn => ?_, fun b o hb hn => e.keep b o hb hn, e.kind⟩, ⟨?_, ?_, fun n a c k1 k2 => ?_⟩, .ref ?_ hkL⟩
              · rcases List.mem_append.mp hb with hb | hb
                · exact absurd hb hn
                · rw [List.mem_singleton.mp hb]; exact hH
              · rw [List.length_append, List.length_append, hl]; rfl
              · rw [List.nodup_append]
                refine ⟨r.nd, by simp, fun a ha b hb z => ?_⟩
                rw [List.mem_singleton] at hb
                rw [z, hb] at ha
                exact hp ha
              · by_cases hi : n < ρ.length
                · rw [List.getElem?_append_left hi] at k1
                  rw [List.getElem?_append_left (by rw [hl]; exact hi)] at k2
                  exact hc2 hbk hmm n a c k1 k2
                · rw [List.getElem?_append_right (by omega)] at k1
                  rw [List.getElem?_append_right (by rw [hl]; omega), hl] at k2
                  have e0 : n - ρ.length = 0 := by
                    have := (List.getElem?_eq_some_iff.mp k1).1
                    simp at this
                    omega
                  rw [e0] at k1 k2
                  simp at k1 k2
                  subst k1; subst k2
                  exact ⟨xs, h1, h2.len, fun i x d a b => (h2.at_ i x d a b).change hbk hmm (nrs_below ds hm d (List.mem_of_getElem? b))⟩
              · rw [← r.len]; simp
          · cases hs
        · cases hs
    · cases hs
    · split at hs
      · rename_i hn
        cases hs
        have rt := rel_take r e r' ho
        obtain ⟨more, rfl⟩ := e.pre
        exact ⟨ρ, e.back, rt, hv.shrink (nr_below _ hn)⟩
      · cases hs
  · cases hs
end
end Lv
namespace Lv
open PySem PySem.Spec PyProof.Rows L2
def rangeD (lo : Int) (n : Nat) : List D := (List.range n).map fun i => D.int (lo + ((i : Nat) : Int))
def iRange1 (f : AF) : IFn := fun env S => match f env S with
  | some ([.int j], S1) => if -(2 ^ 62) ≤ j ∧ j < 2 ^ 62 then some (.fix (rangeD 0 j.toNat), S1) else none
  | _ => none
def zipD (ds es : List D) : List D := List.zipWith (fun x y => .tup [x, y]) ds es
def enumD (ds : List D) : List D := ds.zipIdx.map fun p => .tup [.int (p.2 : Nat), p.1]
def iEnumF (f : AF) : IFn := fun env S => match f env S with
  | some ([x], S1) => (match sqOf x with
    | some (.fix ds) => some (.fix (enumD ds), S1)
    | some a => some (.enum a, S1)
    | none => none)
  | _ => none
section
variable {X : Cx} {K : PySem.W.Frag} {tg e a b : Expr} {fe : EF} {fs : AF} {p pos : Pos}
theorem src_range {ρ : List Addr} {H : Hp} {lo : Int} {n : Nat} : SrcOk K ρ H (Itr lo n) (.fix (rangeD lo n)) := fun ρ2 H2 S2 i x r => by
  simp only [nextD, rangeD, List.getElem?_map]
  by_cases hi : i < n
  · rw [List.getElem?_range hi]
    refine ⟨hi, fun y H3 hy => ?_⟩
    obtain ⟨rfl, rfl⟩ := hy
    exact ⟨Ext.refl _ _, r, .int _⟩
  · rw [List.getElem?_eq_none (by simpa using hi)]
    show n ≤ i
    omega
theorem li_range1 (hg : Gl X "range") (hm : X.mg "range" = none) (ha : PA X [a] (tA X.K fs)) (hs : starEach [a] X.env = [(false, eval a X.env)] := by rfl) : PI X tg (.Call (.Name "range" p) [a] [] pos) (tI X.K (iRange1 fs)) := (pi_range1 hg hm ha hs).imp fun σ H R q0 => by
  obtain ⟨ρ, S, env, src, S', r, en, hf, q⟩ := q0
  unfold iRange1 at hf
  split at hf
  · rename_i j S1 h1
    split at hf
    · rename_i hc
      cases hf
      refine run_a r en h1 fun ρ1 H1 vs x1 r1 hv1 en1 => ?_
      obtain ⟨v, rfl, hw⟩ := rds1 hv1
      cases hw
      exact ⟨j, rfl, hc.1, hc.2, q ρ1 H1 _ x1 r1 src_range⟩
    · cases hf
  · cases hf
theorem pair_new {ρ2 : List Addr} {H2 : Hp} {S2 : Sto} {T : Addr} {x y : V} {d e : D} (r : Rel K ρ2 H2 S2) (hT : H2 T = none) (hx : RD K ρ2 H2 x d) (hy : RD K ρ2 H2 y e) : Ext ρ2 H2 ρ2 (upd H2 T (.tup [x, y])) ∧ Rel K ρ2 (upd H2 T (.tup [x, y])) S2 ∧ RD K ρ2 (upd H2 T (.tup [x, y])) (.ref T) (.tup [d, e]) := by
  have x1 := ext_new (ρ := ρ2) (o := .tup [x, y]) hT
  have hp : RDs K ρ2 H2 [x, y] [d, e] := .cons hx (.cons hy .nil)
  have h3 := hp.ext r x1
  exact ⟨x1, r.newT hT, .tup (SqT.of upd_same) h3.len h3.at_⟩
theorem SrcOk.eqv {ρ : List Addr} {H : Hp} {J : It} {s s' : Src} (h : SrcOk K ρ H J s) (e : ∀ S i, nextD S i s' = nextD S i s) : SrcOk K ρ H J s' := fun ρ2 H2 S2 i x r => by
  rw [e]
  exact h ρ2 H2 S2 i x r
theorem src_enum {ρ : List Addr} {H : Hp} {n : Sq} {p : Addr} (hp : SqOk K ρ H p n) : SrcOk K ρ H (Ite K p) (.enum n) := fun ρ2 H2 S2 i x r => by
  simp only [nextD]
  cases e1 : n.get S2 with
  | none => trivial
  | some ds =>
    obtain ⟨xs, hs, hr⟩ := hp ρ2 H2 S2 ds x r e1
    dsimp only
    cases h : ds[i]? with
    | none =>
      refine ⟨xs, hs, ?_⟩
      rw [hr.len]
      exact List.getElem?_eq_none_iff.mp h
    | some d =>
      obtain ⟨v, hv, hd⟩ := hr.get h
      refine ⟨⟨xs, v, hs, hv⟩, fun y H3 hy => ?_⟩
      obtain ⟨T, z, rfl, hT, rfl, k1⟩ := hy
      have e1 : z = v := Option.some.inj ((k1 xs hs).symm.trans hv)
      rw [e1]
      exact pair_new r hT (.int _) hd
theorem enum_fix {ds : List D} (S : Sto) (i : Nat) : nextD S i (.fix (enumD ds)) = nextD S i (.enum (.fix ds)) := by
  simp only [nextD, Sq.get, enumD, List.getElem?_map, List.getElem?_zipIdx]
  cases ds[i]? <;> simp
theorem li_enum {elts : List Expr} {kk : Nat} {tpos : Pos} (hg : Gl X "enumerate") (hm : X.mg "enumerate" = none) (ha : PA X [a] (tA X.K fs)) (hs : starEach [a] X.env = [(false, eval a X.env)] := by rfl) :
    PI X (.Tuple elts kk tpos) (.Call (.Name "enumerate" p) [a] [] pos) (tI X.K (iEnumF fs)) := (pi_enum hg hm ha hs).imp fun σ H R q0 => by
  obtain ⟨ρ, S, env, src, S', r, en, hf, q⟩ := q0
  unfold iEnumF at hf
  split at hf
  · rename_i xd S1 h1
    refine run_a r en h1 fun ρ1 H1 vs x1 r1 hv1 en1 => ?_
    obtain ⟨v, rfl, hw⟩ := rds1 hv1
    have go : ∀ a, sqOf xd = some a → S1 = S' → (∀ S i, nextD S i src = nextD S i (.enum a)) → ∃ p xs, [v] = [V.ref p] ∧ SqL X.K H1 p xs ∧ R (Ite X.K p) H1 := by
      rintro a ha rfl he
      obtain ⟨p1, rfl, k1, dd, g1⟩ := sq_of r1 hw ha
      obtain ⟨xs, hxs, _⟩ := k1 _ _ _ _ (Ext.refl _ _) r1 g1
      exact ⟨p1, xs, rfl, hxs, q ρ1 H1 _ x1 r1 ((src_enum k1).eqv he)⟩
    split at hf
    · rename_i ds ha
      cases hf
      exact go _ ha rfl fun S i => enum_fix S i
    · rename_i a _ ha
      cases hf
      exact go _ ha rfl fun S i => rfl
    · cases hf
  · cases hf
end
def forL (b : SF) (t : Tg) (src : Src) : Nat → Nat → SF
  | 0, _ => fun _ _ => none
  | n + 1, i => fun env S => match nextD S i src with
    | none => none
    | some none => some (.nx env, S)
    | some (some d) => match setTg t d env with
      | none => none
      | some e1 => match b e1 S with
        | none => none
        | some (.nx e2, S2) => forL b t src n (i + 1) e2 S2
        | some (.ct e2, S2) => forL b t src n (i + 1) e2 S2
        | some (.bk e2, S2) => some (.nx e2, S2)
        | some (.rt d, S2) => some (.rt d, S2)
def sFor (n : Nat) (t : Tg) (it : IFn) (b : SF) : SF := fun env S => match it env S with
  | none => none
  | some (src, S1) => forL b t src n 0 env S1
section
variable {X : Cx} {tg iter c : Expr} {body : List Stmt} {it : IFn} {b : SF} {t : Tg} {gc : TF} {pos : Pos}
theorem out_loop {K : PySem.W.Frag} {ρ : List Addr} {H : Hp} {E : Ends} {N : L2.St → Hp → Prop} {o : Out} (h : match o with
    | .nx e => ∀ σ, EnvR K ρ H σ e → N σ H
    | .ct e => ∀ σ, EnvR K ρ H σ e → N σ H
    | .bk e => ∀ σ, EnvR K ρ H σ e → E.nx σ H
    | .rt d => ∀ v, RD K ρ H v d → E.rt v H) : OutOk K ρ H { E with nx := N, ct := N, bk := E.nx } o := by
  cases o <;> exact h
theorem ls_for (n : Nat) (hp : PassesOwn (model X.prog X.w) X.A X.env X.xe) (hc : X.calm = true) (hi : PI X tg iter (tI X.K it)) (hg : PG X tg (tgOf X.K t)) (hb : PSs X body (tS X.K b))
    (hs : ∀ x, foldedSetIterable iter X.env x = pure x := by intro _; rfl) : PS X (.For tg iter body [] pos) (tS X.K (sFor n t it b)) := (ps_for hp hc hi hg hb hs).imp fun E σ H q0 => by
  obtain ⟨ρ, S, env, o, S', r, en, hf, q⟩ := q0
  unfold sFor at hf
  split at hf
  · cases hf
  · rename_i src S1 h1
    refine ⟨ρ, S, env, src, S1, r, en, h1, fun ρ1 H1 J x1 r1 hJ => ?_⟩
    refine ⟨fun i m σ2 H2 => ∃ ρ2 S2 env2, Rel X.K ρ2 H2 S2 ∧ EnvR X.K ρ2 H2 σ2 env2 ∧ Ext ρ1 H1 ρ2 H2 ∧ forL b t src m i env2 S2 = some (o, S'), ⟨n, ρ1, S1, env, r1, en.ext r x1, Ext.refl _ _, hf⟩, ?_⟩
    rintro i m σ2 H2 ⟨ρ2, S2, env2, r2, en2, x2, h2⟩
    cases m with
    | zero => cases h2
    | succ m =>
      unfold forL at h2
      have hJ2 := hJ ρ2 H2 S2 i x2 r2
      split at h2
      · cases h2
      · rename_i hn
        cases h2
        rw [hn] at hJ2
        exact .inl ⟨hJ2, q ρ2 H2 (x1.trans x2) r2 σ2 en2⟩
      · rename_i d hn
        rw [hn] at hJ2
        obtain ⟨go, yl⟩ := hJ2
        refine .inr ⟨go, _, fun σ' H' h => h, fun x H3 hy => ?_⟩
        obtain ⟨x3, r3, hx⟩ := yl x H3 hy
        have en3 := en2.ext r2 x3
        split at h2
        · cases h2
        · rename_i e1 ht
          refine run_tg r3 en3 hx ht fun xs en4 => ?_
          split at h2
          · cases h2
          · rename_i e2 S4 hb4
            exact run_s r3 en4 hb4 fun ρ5 H5 x5 r5 => out_loop fun σ5 en5 => ⟨m, Nat.lt_succ_self m, ρ5, S4, e2, r5, en5, (x2.trans x3).trans x5, h2⟩
          · rename_i e2 S4 hb4
            exact run_s r3 en4 hb4 fun ρ5 H5 x5 r5 => out_loop fun σ5 en5 => ⟨m, Nat.lt_succ_self m, ρ5, S4, e2, r5, en5, (x2.trans x3).trans x5, h2⟩
          · rename_i e2 S4 hb4
            cases h2
            exact run_s r3 en4 hb4 fun ρ5 H5 x5 r5 => out_loop fun σ5 en5 => q ρ5 H5 (x1.trans ((x2.trans x3).trans x5)) r5 σ5 en5
          · rename_i d2 S4 hb4
            cases h2
            exact run_s r3 en4 hb4 fun ρ5 H5 x5 r5 => out_loop fun v hv => q ρ5 H5 (x1.trans ((x2.trans x3).trans x5)) r5 v hv
end
def compL (t : Tg) (c : TF) (f : EF) (src : Src) (kC : Nat) (env : Env) : Nat → Nat → Sto → Option Sto
  | 0, _, _ => none
  | n + 1, i, S => match nextD S i src with
    | none => none
    | some none => some S
    | some (some d) => match setTg t d env with
      | none => none
      | some e1 => match c e1 S with
        | none => none
        | some (false, S2) => compL t c f src kC env n (i + 1) S2
        | some (true, S2) => match f e1 S2 with
          | none => none
          | some (y, S3) => match S3[kC]? with
            | some (.lst acc) => if acc.length < lim then compL t c f src kC env n (i + 1) (S3.set kC (.lst (acc ++ [y]))) else none
            | _ => none
noncomputable def finC (rm : Bool) (S1 Se : Sto) : Option (D × Sto) := if rm then some (.ref S1.length, Se) else shut S1 (.ref S1.length) Se
noncomputable def eComp (rm : Bool) (n : Nat) (own : List Nat) (it : IFn) (t : Tg) (c : TF) (f : EF) : EF := fun env S => match it env S with
  | none => none
  | some (src, S1) => match compL t c f src S1.length (wipeE env own) n 0 (S1 ++ [.lst []]) with
    | none => none
    | some Se => finC rm S1 Se
def tYesF : TF := fun _ S => some (true, S)
section
variable {X : Cx} {it : IFn} {t : Tg} {gc : TF} {fe : EF}
theorem lp_nil : PTs X [] (tT X.K tYesF) := ⟨fun pins s σ H Q I h => pts_nil.run pins s σ H Q I (by
  obtain ⟨ρ, S, env, b, S', r, en, hf, q⟩ := h
  cases hf
  exact q ρ H (Ext.refl ρ H) r)⟩
theorem comp_imp {own : List Nat} {rm : Bool} (n : Nat) (ht : ∀ i ∈ t.ix, i ∈ own) (σ : L2.St) (H : Hp) (Q : VK) (q0 : tE X.K (eComp rm n own it t gc fe) σ H Q) : tLc (tI X.K it) (tgOf X.K t) (tT X.K gc) (tE X.K fe) own σ H Q := by
  obtain ⟨ρ, S, env, d, S', r, en, hf, q⟩ := q0
  unfold eComp at hf
  split at hf
  · cases hf
  · rename_i src S1 h1
    split at hf
    · cases hf
    · rename_i Se h2
      refine ⟨ρ, S, env, src, S1, r, en, h1, fun ρ1 H1 J x1 r1 hJ Da nD => ?_⟩
      have xN : Ext ρ1 H1 (ρ1 ++ [Da]) (upd H1 Da (.lst [])) := ext_newL nD
      have kD : (ρ1 ++ [Da])[S1.length]? = some Da := by rw [← r1.len]; simp
      refine ⟨fun i m H2 => ∃ ρ2 S3, Rel X.K ρ2 H2 S3 ∧ Ext (ρ1 ++ [Da]) (upd H1 Da (.lst [])) ρ2 H2 ∧ compL t gc fe src S1.length (wipeE env own) m i S3 = some Se, ?_, ?_⟩
      · exact ⟨n, ρ1 ++ [Da], _, r1.newL nD .nil, Ext.refl _ _, h2⟩
      · rintro i m H2 ⟨ρ2, S3, r2, x2, h3⟩
        cases m with
        | zero => cases h3
        | succ m =>
          unfold compL at h3
          have x12 := xN.trans x2
          have hJ2 := hJ ρ2 H2 S3 i x12 r2
          have en2 : EnvR X.K ρ2 H2 (L2.wipe σ own) (wipeE env own) := ((en.ext r x1).ext r1 x12).wipe own
          split at h3
          · cases h3
          · rename_i hn
            cases h3
            rw [hn] at hJ2
            refine .inl ⟨hJ2, ?_⟩
            unfold finC at hf
            split at hf
            · cases hf
              exact q ρ2 H2 (.ref Da) (x1.trans x12) r2 (.ref (x2.get kD) (x2.kind _ (List.mem_of_getElem? kD) (.lst upd_same)))
            · obtain ⟨x4, r4, v4⟩ := seal_ok r1 x12 r2 (.ref (x2.get kD) (x2.kind _ (List.mem_of_getElem? kD) (.lst upd_same))) hf
              exact q ρ1 H2 (.ref Da) (x1.trans x4) r4 v4
          · rename_i d hn
            rw [hn] at hJ2
            obtain ⟨go, yl⟩ := hJ2
            refine .inr ⟨go, _, fun H' h => h, fun x H3 hy => ?_⟩
            obtain ⟨x3, r3, hx⟩ := yl x H3 hy
            split at h3
            · cases h3
            · rename_i e1 hte
              refine run_tg r3 (en2.ext r2 x3) hx hte fun ys en4 => ⟨?_, ?_⟩
              · rw [wipe_sets ht, wipe_wipe]
              · split at h3
                · cases h3
                · rename_i S5 h5
                  refine run_t r3 en4 h5 fun ρ5 H5 x5 r5 en5 => iteF ?_
                  exact ⟨m, Nat.lt_succ_self m, ρ5, S5, r5, x2.trans (x3.trans x5), h3⟩
                · rename_i S5 h5
                  refine run_t r3 en4 h5 fun ρ5 H5 x5 r5 en5 => iteT ?_
                  split at h3
                  · cases h3
                  · rename_i y S6 h6
                    split at h3
                    · rename_i acc hacc
                      split at h3
                      · rename_i hl
                        refine run_e r5 en5 h6 fun ρ6 H6 v6 x6 r6 hv6 en6 => ?_
                        have x26 := (x3.trans x5).trans x6
                        have kk := x26.get (x2.get kD)
                        obtain ⟨xs, hD6, ha6⟩ := r6.cell _ _ _ kk hacc
                        have hw6 : RDs X.K ρ6 H6 [v6] [y] := .cons hv6 .nil
                        exact ⟨xs, hD6, lim_lt (by rw [ha6.len]; omega), m, Nat.lt_succ_self m, ρ6, _, r6.mutL kk (ha6.append hw6), (x2.trans x26).trans (ext_mut (List.mem_of_getElem? kk)), h3⟩
                      · cases h3
                    · cases h3
where
  wipe_in {τ : L2.St} {own : List Nat} {j : Nat} (hj : j ∈ own) (hτ : j < τ.length) : (L2.wipe τ own)[j]? = some none := by
    have hl : j < (L2.wipe τ own).length := by rw [wipe_length]; exact hτ
    cases q : (L2.wipe τ own)[j]? with
    | none => rw [List.getElem?_eq_none_iff] at q; omega
    | some o =>
      cases o with
      | none => rfl
      | some x => exact absurd hj (wipe_some q).2
  wipe_wipe {σ : L2.St} {own : List Nat} : L2.wipe (L2.wipe σ own) own = L2.wipe σ own := by
    refine List.ext_getElem? fun j => ?_
    by_cases hj : j ∈ own
    · by_cases h1 : j < σ.length
      · rw [wipe_in hj (by rw [wipe_length]; exact h1), wipe_in hj h1]
      · rw [List.getElem?_eq_none (by rw [wipe_length, wipe_length]; omega), List.getElem?_eq_none (by rw [wipe_length]; omega)]
    · rw [wipe_out hj]
end
end Lv
namespace Lv
open PySem PySem.Spec PyProof.Rows L2
section
variable {X : Cx} {it : IFn} {t : Tg} {gc : TF} {fe : EF}
theorem l_lc {rm : Bool} (n : Nat) {elt tg iter : Expr} {ifs : List Expr} {scope : Scope} {own : List (Str × Nat)} {pos : Pos} (hc : X.calm = true) (hN : X.N.Nodup) (hi : PI X tg iter (tI X.K it)) (ok : BlkOk X.N X.env.scope scope own) (hix : ∀ i ∈ t.ix, i ∈ own.map (·.2))
    (hg : ∀ (s : Shared) (H : Hp) (C : Addr) (cl : List (Str × Addr)) (fp : List Addr), PG (X.blk s H scope (compEnvC scope cl C X.env) fp) tg (tgOf X.K t)) (ht : ∀ (s : Shared) (H : Hp) (C : Addr) (cl : List (Str × Addr)) (fp : List Addr), PTs (X.blk s H scope (compEnvC scope cl C X.env) fp) ifs (tT X.K gc))
    (he : ∀ (s : Shared) (H : Hp) (C : Addr) (cl : List (Str × Addr)) (fp : List Addr), PE (X.blk s H scope (compEnvC scope cl C X.env) fp) elt (tE X.K fe)) (hs : ∀ x, foldedSetIterable iter X.env x = pure x := by intro _; rfl) :
    PE X (.ListComp elt [⟨tg, iter, ifs, 0⟩] scope pos) (tE X.K (eComp rm n (own.map (·.2)) it t gc fe)) := (pe_lc hc hN hi ok hg ht he hs).imp (comp_imp n hix)
theorem lp_one {c : Expr} (h : PT X c (tT X.K gc)) : PTs X [c] (tT X.K gc) := pts_one h
end
structure FnG (P : Program) (w : World) (K : PySem.W.Frag) (mg : Str → Option Value) (base : Heap) (k : Nat) (f : Addr) (fd : FuncData) (ps : List Str) (sp : Sp) : Prop where
  len : ∀ vs H Q E, sp vs H Q E → vs.length = ps.length
  run : ∀ (A : Around) (outer : List PySem.Env) (s : Shared) (H : Hp) (args : Args) (us : List Value) (vs : List V) (Q : VK), Room k A → A.guards = some [] → Env0 P w K mg base A outer s H → BindsTo s fd args (ps.zip us) → Vals vs us → sp vs H Q E0 →
    codeAny (model P w) A (.call (.ref f) args) (CR CX0 outer P w H s Q E0) s
def spOf (K : PySem.W.Frag) (n : Nat) (g : CF) : Sp := fun vs H Q _ => vs.length = n ∧ ∃ ρ S ds z S', Rel K ρ H S ∧ RDs K ρ H vs ds ∧ g ds S = some (z, S') ∧ ∀ ρ' H' v, Ext ρ H ρ' H' → Rel K ρ' H' S' → RD K ρ' H' v z → Q v H'
def startE (nn : Nat) (ds : List D) : Env := ds.map some ++ List.replicate (nn - ds.length) none
def fnF (np nn : Nat) (body : SF) : CF := fun ds S => if ds.length = np then (match body (startE nn ds) S with
  | some (.rt d, S1) => some (d, S1)
  | some (.nx _, S1) => some (.non, S1)
  | _ => none) else none
theorem start_rd {K : PySem.W.Frag} {ρ : List Addr} {H : Hp} {N : List Str} {vs : List V} {ds : List D} (h : RDs K ρ H vs ds) : EnvR K ρ H (L2.start N vs) (startE N.length ds) := by
  refine ⟨by simp [L2.start, startE, h.len], fun i d e => ?_⟩
  unfold startE at e
  unfold L2.start
  by_cases hi : i < ds.length
  · rw [List.getElem?_append_left (by simpa using hi)] at e
    rw [List.getElem?_append_left (by simpa [h.len] using hi)]
    rw [List.getElem?_map] at e
    cases q : ds[i]? with
    | none => rw [q] at e; cases e
    | some d' =>
      rw [q] at e
      cases e
      obtain ⟨x, hx, hd⟩ := h.get q
      exact ⟨x, by rw [List.getElem?_map, hx]; rfl, hd⟩
  · rw [List.getElem?_append_right (by simpa using hi)] at e
    rw [List.getElem?_replicate] at e
    split at e <;> cases e
section
variable {P : Program} {w : World} {K : PySem.W.Frag} {mg : Str → Option Value} {base : Heap}
theorem fn_g {x qual : Str} {st : Stmt} {f : Addr} {fd : FuncData} {N ps : List Str} {k : Nat} {body : SF} (F : Fun K x qual st f fd) (S : FnScope N ps (defScope st))
    (hbody : ∀ (cdv : Value) (A : Around) (outer : List PySem.Env) (s : Shared) (H : Hp), Room k (A.deeper (envOfC qual (defScope st) s.heap.objs.size f cdv)) → (A.deeper (envOfC qual (defScope st) s.heap.objs.size f cdv)).guards = some [] →
      PSs (cxOf CX0 P w K mg base N qual (defScope st) f cdv A outer s H E0).nox (defBody st) (tS K body)) : FnG P w K mg base (k + 1) f fd ps (spOf K ps.length (fnF ps.length N.length body)) := by
  obtain ⟨oc, od, kV, doc, pm, an, cdv, ct, osl, rfl, lk, hcd⟩ := F.ex
  refine ⟨fun vs H Q E h => h.1, fun A outer s H args us vs Q hr hg e0 hb rv hsp => ?_⟩
  obtain ⟨hl, ρ, S0, ds, z, S', r, hd, hf, q⟩ := hsp
  refine LamX.run_ofS (N := N) (ps := ps) (us := us) (vs := vs) lk hcd S hr e0 hb rv hl fun hr' => ?_
  refine ⟨_, (hbody cdv A outer s H hr' hg).nox, ?_⟩
  unfold fnF at hf
  split at hf
  · split at hf
    · rename_i d S1 h1
      cases hf
      exact run_s r (start_rd hd) h1 fun ρ1 H1 x1 r1 v hv => q ρ1 H1 v x1 r1 hv
    · rename_i e1 S1 h1
      cases hf
      exact run_s r (start_rd hd) h1 fun ρ1 H1 x1 r1 σ en => q ρ1 H1 .non x1 r1 .non
    · cases hf
  · cases hf
noncomputable def sealed (g : CF) : CF := fun ds S => match g ds S with
  | some (z, S') => shut S z S'
  | none => none
noncomputable def sealedR (g : CF) : CF := fun ds S => match g ds S with
  | some (z, S') => shutR S z S'
  | none => none
theorem FnG.sealed {f : Addr} {fd : FuncData} {ps : List Str} {k n : Nat} {g : CF} (F : FnG P w K mg base k f fd ps (spOf K n g)) : FnG P w K mg base k f fd ps (spOf K n (sealed g)) := by
  have i : ∀ vs H Q E, spOf K n (Lv.sealed g) vs H Q E → spOf K n g vs H Q E := fun vs H Q E q => by
    obtain ⟨hl, ρ, S0, ds, z, S', r, hd, hf, q⟩ := q
    unfold Lv.sealed at hf
    split at hf
    · rename_i z1 S1 h1
      refine ⟨hl, ρ, S0, ds, z1, S1, r, hd, h1, fun ρ' H' v e r' hv => ?_⟩
      obtain ⟨e2, r2, v2⟩ := seal_ok r e r' hv hf
      exact q ρ H' v e2 r2 v2
    · cases hf
  exact ⟨fun vs H Q E q => F.len vs H Q E (i _ _ _ _ q), fun A outer s H args us vs Q a b c d e q => F.run A outer s H args us vs Q a b c d e (i _ _ _ _ q)⟩
theorem FnG.sealedR {f : Addr} {fd : FuncData} {ps : List Str} {k n : Nat} {g : CF} (F : FnG P w K mg base k f fd ps (spOf K n g)) : FnG P w K mg base k f fd ps (spOf K n (sealedR g)) := by
  have i : ∀ vs H Q E, spOf K n (Lv.sealedR g) vs H Q E → spOf K n g vs H Q E := fun vs H Q E q => by
    obtain ⟨hl, ρ, S0, ds, z, S', r, hd, hf, q⟩ := q
    unfold Lv.sealedR at hf
    split at hf
    · rename_i z1 S1 h1
      refine ⟨hl, ρ, S0, ds, z1, S1, r, hd, h1, fun ρ' H' v e r' hv => ?_⟩
      obtain ⟨p, e2, r2, v2⟩ := sealR_ok r e r' hv hf
      exact q _ H' v e2 r2 v2
    · cases hf
  exact ⟨fun vs H Q E q => F.len vs H Q E (i _ _ _ _ q), fun A outer s H args us vs Q a b c d e q => F.run A outer s H args us vs Q a b c d e (i _ _ _ _ q)⟩
theorem FnG.eq {f : Addr} {fd : FuncData} {ps : List Str} {k n : Nat} {g g' : CF} (F : FnG P w K mg base k f fd ps (spOf K n g)) (h : ∀ ds S z, g' ds S = some z → g ds S = some z) : FnG P w K mg base k f fd ps (spOf K n g') := by
  have i : ∀ vs H Q E, spOf K n g' vs H Q E → spOf K n g vs H Q E := fun vs H Q E q => by
    obtain ⟨hl, ρ, S0, ds, z, S', r, hd, hf, q⟩ := q
    exact ⟨hl, ρ, S0, ds, z, S', r, hd, h _ _ _ hf, q⟩
  exact ⟨fun vs H Q E q => F.len vs H Q E (i _ _ _ _ q), fun A outer s H args us vs Q a b c d e q => F.run A outer s H args us vs Q a b c d e (i _ _ _ _ q)⟩
theorem FnG.mono {f : Addr} {fd : FuncData} {ps : List Str} {k j : Nat} {sp : Sp} (F : FnG P w K mg base j f fd ps sp) (h : j ≤ k) : FnG P w K mg base k f fd ps sp := ⟨F.len, fun A outer s H args us vs Q a => F.run A outer s H args us vs Q (a.mono h)⟩
end
section
variable {X : Cx} {k n : Nat} {f : Addr} {fd : FuncData} {ps ks : List Str} {g : CF} {x : Str} {p pos : Pos} {e : Expr} {es : List Expr} {kws : List Keyword} {fs fk : AF}
theorem run_g {pins : List (Addr × Obj)} {σ : L2.St} {H : Hp} {s : Shared} {Q : VK} {us : List Value} {kw : List (Str × Value)} {vs : List V} {ws : List Value} (F : FnG X.prog X.w X.K X.mg X.base k f fd ps (spOf X.K n g)) (hr : Room k X.A) (hG : X.A.guards = some [])
    (hb : BindsTo s fd ⟨us, kw⟩ (ps.zip ws)) (I : Inv X pins σ H s) (r : Vals vs ws) (h : spOf X.K n g vs H Q E0) : wpAny (model X.prog X.w) X.A (call (.ref f) us kw) (EP X pins σ Q) X.xe s := by
  refine wpAny_call (codeAny_mono (F.run X.A X.stack s H ⟨us, kw⟩ ws vs Q hr hG I.env0 hb r h) fun r s' hq => ?_)
  cases r with
  | error e => exact False.elim hq
  | ok fl =>
    cases fl with
    | ret u => exact I.after hq
    | next => exact False.elim hq
    | brk => exact False.elim hq
    | cont => exact False.elim hq
def Ar (g : CF) (n : Nat) : Prop := ∀ ds S z, g ds S = some z → ds.length = n
theorem ar_fn {np nn : Nat} {body : SF} : Ar (fnF np nn body) np := fun ds S z h => by
  unfold fnF at h
  split at h
  · assumption
  · cases h
theorem ar_sealed (h : Ar g n) : Ar (sealed g) n := fun ds S z q => by
  unfold sealed at q
  split at q
  · rename_i z1 S1 h1; exact h _ _ _ h1
  · cases q
theorem ar_sealedR (h : Ar g n) : Ar (sealedR g) n := fun ds S z q => by
  unfold sealedR at q
  split at q
  · rename_i z1 S1 h1; exact h _ _ _ h1
  · cases q
theorem ok_sp {K : PySem.W.Frag} (hn : Ar g n) : OkCall K (fun vs H Q => spOf K n g vs H Q E0) g := fun ρ H S S' vs ds z Q r hv hg q => ⟨by rw [hv.len]; exact hn _ _ _ hg, ρ, S, ds, z, S', r, hv, hg, q⟩
theorem l_call (F : FnG X.prog X.w X.K X.mg X.base k f fd ps (spOf X.K n g)) (hn : Ar g n) (hr : Room k X.A) (hG : X.A.guards = some []) (hg : Gl X x) (hm : X.mg x = some (.ref f)) (hk : PySem.W.keepIn X.K (.ref f) = true) (hb : Binds X.K fd ps []) (hps : ps.length = n)
    (ha : PA X (e :: es) (tA X.K fs)) (hdb : (x == ("__debug__" : Str)) = false := by decide) (he : starEach (e :: es) X.env = (false, eval e X.env) :: starEach es X.env := by rfl) (hpl : (backTo pos (starEach es X.env)).any (·.1) = false := by rfl) :
    PE X (.Call (.Name x p) (e :: es) [] pos) (tE X.K (eCall g fs)) := by
  refine ⟨fun pins s σ H Q I h => ?_⟩
  refine wpAny_Call_Name_kw (ld_glob I hg hm ?_ hdb)
  refine PySem.W.callWith_K (h₀ := X.base) I.ok.mod.kin hk (thn (ha.run pos pins s σ H _ I (call_imp (ok_sp hn) σ H Q h)) fun us s1 ⟨vs, H1, I1, r, q⟩ => ⟨I1.kIn, ?_⟩) he hpl
  refine run_g (ws := us) F hr hG ?_ I1 r q
  have := hb s1 us I1.kIn (by rw [List.append_nil, ← r.length, q.1, hps])
  rw [List.append_nil] at this
  exact this
theorem l_call0 (F : FnG X.prog X.w X.K X.mg X.base k f fd [] (spOf X.K 0 g)) (hn : Ar g 0) (hr : Room k X.A) (hG : X.A.guards = some []) (hg : Gl X x) (hm : X.mg x = some (.ref f)) (hk : PySem.W.keepIn X.K (.ref f) = true) (hb : Binds X.K fd [] [])
    (hdb : (x == ("__debug__" : Str)) = false := by decide) : PE X (.Call (.Name x p) [] [] pos) (tE X.K (eCall g aNil)) := by
  refine ⟨fun pins s σ H Q I h => ?_⟩
  refine wpAny_Call_Name_kw (ld_glob I hg hm ?_ hdb)
  refine PySem.W.callWith_K0 I.kIn hk ?_
  obtain ⟨ρ, S, env, d, S', rl, en, hf, q⟩ := h
  exact run_g (us := []) (ws := []) (vs := []) F hr hG (hb s [] I.kIn rfl) I .nil ⟨rfl, ρ, S, [], d, S', rl, .nil, hf, q⟩
def pick {α : Type} (l : List α) : List Nat → List α
  | [] => []
  | i :: r => match l[i]? with
    | some x => x :: pick l r
    | none => pick l r
def eCallK (g : CF) (np nk : Nat) (perm : List Nat) (fa fk : AF) : EF := fun env S => match fa env S with
  | none => none
  | some (ds, S1) => match fk env S1 with
    | none => none
    | some (es, S2) => if ds.length = np ∧ es.length = nk then g (pick (ds ++ es) perm) S2 else none
theorem lk_nil : PK X [] (tA X.K aNil) := ⟨fun pos pins s σ H Q I h => pk_nil.run pos pins s σ H Q I (by
  obtain ⟨ρ, S, env, ds, S', r, en, hf, q⟩ := h
  cases hf
  exact q ρ H [] (Ext.refl ρ H) r RDs.nil)⟩
theorem lk_cons {fe : EF} {nm : Option Str} {kpos : Pos} (ha : PE X e (tE X.K fe)) (hr : PK X kws (tA X.K fs)) : PK X (⟨nm, e, kpos⟩ :: kws) (tA X.K (aCons fe fs)) := ⟨fun pos pins s σ H Q I h => (pk_cons ha hr).run pos pins s σ H Q I (cons_imp σ H Q h)⟩
end
theorem ints_rd {K : PySem.W.Frag} {ρ : List Addr} {H : Hp} : ∀ ns : List Int, RDs K ρ H (ns.map V.int) (ns.map D.int)
  | [] => .nil
  | n :: ns => .cons (.int n) (ints_rd ns)
end Lv
namespace Lv
open PySem PySem.Spec PyProof.Rows L2
section
variable {P : Program} {w : World} {K : PySem.W.Frag} {mg mb : Str → Option Value} {k : Nat} {fa a : Addr} {fd : FuncData} {x : Str} {sp : Sp} {s₁ : Shared} {vs : List Value} {ns : List Int}
end
end Lv
namespace Lv
open PySem PySem.Spec PyProof.Rows L2
def gSub : OF := gArith fun i j => some (i - j)
def eNotT (f : EF) : EF := fun env S => match f env S with
  | some (d, S1) => match truD S1 d with
    | some b => some (.bl !b, S1)
    | none => none
  | none => none
section
variable {X : Cx} {a b c : Expr} {fa fb fc : EF} {gt : TF} {fs : AF} {pos : Pos}
end
end Lv
namespace Lv
open PySem PySem.Spec PyProof.Rows L2
section
variable {P : Program} {w : World} {A : Around} {E : Value → Shared → Prop} {s : Shared}
end
end Lv
namespace Lv
open PySem PySem.Spec PyProof.Rows L2
section
variable {X : Cx} {a b e : Expr} {fa fb : EF} {pos p p2 p3 q : Pos}
end
end Lv
namespace Lv
open PySem PySem.Spec PyProof.Rows L2
def bigI : List Int → Option Int
  | [] => none
  | n :: ns => match bigI ns with
    | none => some n
    | some m => some (if n < m then m else n)
def smallI : List Int → Option Int
  | [] => none
  | n :: ns => match smallI ns with
    | none => some n
    | some m => some (if m < n then m else n)
def cPickL (f : List Int → Option Int) : CF := fun ds S => match ds with
  | [d] => match listOf S d with
    | some es => match intsD es with
      | some ns => match f ns with
        | some m => some (.int m, S)
        | none => none
      | none => none
    | none => none
  | _ => none
section
variable {K : PySem.W.Frag} {X : Cx}
def idxD (y : D) : List D → Option Nat
  | [] => none
  | d :: ds => if eqD d y = true then some 0 else match idxD y ds with
    | some j => some (j + 1)
    | none => none
def mIndex : MF := fun x ds S => match ds with
  | [y] => match listOf S x with
    | some es => if flatD y && es.all flatD then (match idxD y es with
      | some j => some (.int (j : Nat), S)
      | none => none) else none
    | none => none
  | _ => none
end
end Lv
namespace Lv
open PySem PySem.Spec PyProof.Rows L2
section
variable {X : Cx} {x : Str} {zs : List Str} {kvs : List (Str × Str)} {e : Expr} {fe : EF} {pos px apos cpos : Pos}
end
end Lv
namespace Lv
open PySem PySem.Spec PyProof.Rows L2
section
variable {K : PySem.W.Frag} {ρ : List Addr} {H : Hp} {S : Sto}
end
end Lv
namespace Lv
open PySem PySem.Spec PyProof.Rows L2
def gCmp2 (f : Int → Int → Bool) (g : List Nat → List Nat → Bool) : OF := fun x y S => match x, y with
  | .int i, .int j => some (.bl (f i j), S)
  | .str i, .str j => some (.bl (g i.cps.toList j.cps.toList), S)
  | _, _ => none
def fLt : List Nat → List Nat → Bool := fun a b => decide (a < b)
def fLe : List Nat → List Nat → Bool := fun a b => !decide (b < a)
section
variable {X : Cx}
end
def signsD (x : Str) : List D := x.cps.toList.map fun c => D.str ⟨#[c]⟩
def iStrF (f : EF) : IFn := fun env S => match f env S with
  | some (.str x, S1) => some (.fix (signsD x), S1)
  | _ => none
def iAny (f : EF) : IFn := fun env S => match f env S with
  | some (.str x, S1) => some (.fix (signsD x), S1)
  | some (.ref n, S1) => some (.cell n, S1)
  | some (.tup ds, S1) => some (.fix ds, S1)
  | some (.vl ds, S1) => some (.fix ds, S1)
  | _ => none
section
variable {X : Cx} {K : PySem.W.Frag} {tg e : Expr} {fe : EF}
theorem src_str {ρ : List Addr} {H : Hp} {x : Str} : SrcOk K ρ H (Its x) (.fix (signsD x)) := fun ρ2 H2 S2 i w r => by
  simp only [nextD, signsD, List.getElem?_map]
  cases h : x.cps.toList[i]? with
  | none =>
    show x.cps.size ≤ i
    have := List.getElem?_eq_none_iff.mp h
    simpa using this
  | some c =>
    have hc : x.cps[i]? = some c := by rw [← Array.getElem?_toList]; exact h
    refine ⟨?_, fun y H3 hy => ?_⟩
    · show i < x.cps.size
      exact (Array.getElem?_eq_some_iff.mp hc).1
    · obtain ⟨rfl, c', h1, rfl⟩ := hy
      rw [hc] at h1
      cases h1
      exact ⟨Ext.refl _ _, r, .str _⟩
theorem li_str (he : PE X e (tE X.K fe)) : PI X tg e (tI X.K (iStrF fe)) := (pi_str he).imp fun σ H R q0 => by
  obtain ⟨ρ, S, env, src, S', r, en, hf, q⟩ := q0
  unfold iStrF at hf
  split at hf
  · rename_i x S1 h1
    cases hf
    refine run_e r en h1 fun ρ1 H1 v1 e1 r1 hv1 en1 => ?_
    cases hv1
    exact ⟨x, rfl, q ρ1 H1 _ e1 r1 src_str⟩
  · cases hf
theorem li_any (he : PE X e (tE X.K fe)) : PI X tg e (tI X.K (iAny fe)) := (PI.or (li_seq he) (li_str he)).imp fun σ H R q0 => by
  obtain ⟨ρ, S, env, src, S', r, en, hf, q⟩ := q0
  unfold iAny at hf
  split at hf
  · rename_i x S1 h1
    cases hf
    refine .inr ⟨ρ, S, env, _, S', r, en, ?_, q⟩
    unfold iStrF
    rw [h1]
  · rename_i n S1 h1
    cases hf
    refine .inl ⟨ρ, S, env, _, S', r, en, ?_, q⟩
    unfold iSeq
    rw [h1]
  · rename_i ds S1 h1
    cases hf
    refine .inl ⟨ρ, S, env, _, S', r, en, ?_, q⟩
    unfold iSeq
    rw [h1]
  · rename_i ds S1 h1
    cases hf
    refine .inl ⟨ρ, S, env, _, S', r, en, ?_, q⟩
    unfold iSeq
    rw [h1]
  · cases hf
end
end Lv
namespace Lv
open PySem PySem.Spec PyProof.Rows L2
end Lv
namespace Lv
open PySem PySem.Spec PyProof.Rows L2
end Lv
namespace Lv
open PySem PySem.Spec PyProof.Rows L2
section
variable {X : Cx} {K : PySem.W.Frag} {tg e a b : Expr} {fs : AF} {p pos : Pos}
end
end Lv
namespace Lv
open PySem PySem.Spec PyProof.Rows L2
section
variable {K : PySem.W.Frag}
end
end Lv
namespace Lv
open PySem PySem.Spec PyProof.Rows L2
def gInD (neg : Bool) : OF := fun x y S => match toP 60 S x, toP 60 S y with
  | some d, some (.list ds) => if SeqAt.shaped d && SeqAt.shaped (.list ds) then some (.bl (if neg then !(ds.any fun z => PyData.eqv z d) else ds.any fun z => PyData.eqv z d), S) else none
  | _, _ => none
def gIn2 (neg : Bool) : OF := fun x y S => match gIn neg x y S with
  | some z => some z
  | none => gInD neg x y S
section
variable {X : Cx} {K : PySem.W.Frag}
theorem op_in2 (hu : X.A.units + 65 < cLine) : OpR X (compareOp .In) (fun x y H Q => rIn X.K false x y H Q ∨ rInD X.K x y H Q) := OpR.or op_in_seq (op_inD hu)
theorem _root_.L2.Room.units1 {k : Nat} {A : Around} (r : Room k A) : A.units + 65 < cLine := by have := r.un; omega
theorem ok_inD : OkOp K (rInD K) (gInD false) := by
  intro ρ H S S' x y d e z Q r hx hy hg q
  unfold gInD at hg
  split at hg
  · rename_i p ps h1 h2
    split at hg
    · rename_i hs
      cases hg
      rw [Bool.and_eq_true] at hs
      exact ⟨p, ps, dp_of r _ x d p hx h1, dp_of r _ y e _ hy h2, hs.1, hs.2, q ρ H _ (Ext.refl ρ H) r (.bl _)⟩
    · cases hg
  · cases hg
theorem ok_in2 : OkOp K (fun x y H Q => rIn K false x y H Q ∨ rInD K x y H Q) (gIn2 false) := ok_or (ok_in false) ok_inD
end
end Lv
namespace Lv
open PySem PySem.Spec PyProof.Rows L2
section
variable {env : Env} {S S1 S2 : Sto} {d x y : D} {ds : List D}
@[simp] theorem r_eVar {i : Nat} : eVar i env S = (match env[i]? with
  | some (some d) => some (d, S)
  | _ => none) := rfl
@[simp] theorem r_eC : eC d env S = some (d, S) := rfl
@[simp] theorem r_eBin {g : OF} {f h : EF} : eBin g f h env S = (match f env S with
  | none => none
  | some (x, S1) => match h env S1 with
    | none => none
    | some (y, S2) => g x y S2) := rfl
@[simp] theorem r_truB {f : EF} : truB f env S = (match f env S with
  | some (.bl k, S') => some (k, S')
  | _ => none) := rfl
@[simp] theorem r_truF {f : EF} : truF f env S = (match f env S with
  | some (d, S1) => match truD S1 d with
    | some b => some (b, S1)
    | none => none
  | none => none) := rfl
@[simp] theorem r_truD_bl {b : Bool} : truD S (.bl b) = some b := rfl
@[simp] theorem r_truD_int {i : Int} : truD S (.int i) = some (i != 0) := rfl
@[simp] theorem r_truD_non : truD S .non = some false := rfl
@[simp] theorem r_tAnd {f g : TF} : tAndF f g env S = (match f env S with
  | some (true, S1) => g env S1
  | some (false, S1) => some (false, S1)
  | none => none) := rfl
@[simp] theorem r_tOr {f g : TF} : tOrF f g env S = (match f env S with
  | some (true, S1) => some (true, S1)
  | some (false, S1) => g env S1
  | none => none) := rfl
@[simp] theorem r_tNot {f : TF} : tNotF f env S = (match f env S with
  | some (b, S1) => some (!b, S1)
  | none => none) := rfl
@[simp] theorem r_eAnd {f g : EF} : eAnd f g env S = (match f env S with
  | some (.bl true, S1) => g env S1
  | some (.bl false, S1) => some (.bl false, S1)
  | _ => none) := rfl
@[simp] theorem r_eOr {f g : EF} : eOr f g env S = (match f env S with
  | some (.bl true, S1) => some (.bl true, S1)
  | some (.bl false, S1) => g env S1
  | _ => none) := rfl
@[simp] theorem r_eNotT {f : EF} : eNotT f env S = (match f env S with
  | some (d, S1) => match truD S1 d with
    | some b => some (.bl !b, S1)
    | none => none
  | none => none) := rfl
@[simp] theorem r_eIf {t : TF} {f g : EF} : eIf t f g env S = (match t env S with
  | some (true, S1) => f env S1
  | some (false, S1) => g env S1
  | none => none) := rfl
@[simp] theorem r_eNeg {f : EF} : eNeg f env S = (match f env S with
  | some (.int i, S1) => some (.int (-i), S1)
  | _ => none) := rfl
@[simp] theorem r_eBits {f : EF} : eBits f env S = (match f env S with
  | some (.int i, S1) => some (.int (Builtin.Int.intBits i : Nat), S1)
  | _ => none) := rfl
@[simp] theorem r_eChain {g g' : OF} {f h k : EF} : eChain g g' f h k env S = (match f env S with
  | none => none
  | some (x, S1) => match h env S1 with
    | none => none
    | some (y, S2) => match g x y S2 with
      | some (.bl true, S3) => (match k env S3 with
        | none => none
        | some (z, S4) => g' y z S4)
      | some (.bl false, S3) => some (.bl false, S3)
      | _ => none) := rfl
@[simp] theorem r_aNil : aNil env S = some ([], S) := rfl
@[simp] theorem r_aCons {f : EF} {g : AF} : aCons f g env S = (match f env S with
  | none => none
  | some (d, S1) => match g env S1 with
    | none => none
    | some (ds, S2) => some (d :: ds, S2)) := rfl
@[simp] theorem r_eCall {g : CF} {f : AF} : eCall g f env S = (match f env S with
  | none => none
  | some (ds, S1) => g ds S1) := rfl
@[simp] theorem r_eCallK {g : CF} {np nk : Nat} {perm : List Nat} {f h : AF} : eCallK g np nk perm f h env S = (match f env S with
  | none => none
  | some (ds, S1) => match h env S1 with
    | none => none
    | some (es, S2) => if ds.length = np ∧ es.length = nk then g (pick (ds ++ es) perm) S2 else none) := rfl
@[simp] theorem r_sNil : sNil env S = some (.nx env, S) := rfl
@[simp] theorem r_sDrop {f : EF} : sDrop f env S = (match f env S with
  | some (_, S1) => some (.nx env, S1)
  | none => none) := rfl
@[simp] theorem r_sRet {f : EF} : sRet f env S = (match f env S with
  | some (d, S1) => some (.rt d, S1)
  | none => none) := rfl
@[simp] theorem r_sSet {i : Nat} {f : EF} : sSet i f env S = (match f env S with
  | some (d, S1) => some (.nx (env.set i (some d)), S1)
  | none => none) := rfl
@[simp] theorem r_sAsg {t : Tg} {f : EF} : sAsg t f env S = (match f env S with
  | some (d, S1) => match setTg t d env with
    | some e1 => some (.nx e1, S1)
    | none => none
  | none => none) := rfl
@[simp] theorem r_sPar {l : List Nat} {f : AF} : sPar l f env S = (match f env S with
  | some (ds, S1) => if ds.length = l.length then some (.nx (setsE l ds env), S1) else none
  | none => none) := rfl
@[simp] theorem r_sIf {t : TF} {f g : SF} : sIf t f g env S = (match t env S with
  | some (true, S1) => f env S1
  | some (false, S1) => g env S1
  | none => none) := rfl
@[simp] theorem r_sCons {f g : SF} : sCons f g env S = (match f env S with
  | some (.nx e1, S1) => g e1 S1
  | r => r) := rfl
@[simp] theorem r_sSub {fo fi fe : EF} : sSub fo fi fe env S = (match fe env S with
  | none => none
  | some (d, S1) => match fo env S1 with
    | some (.ref k, S2) => (match fi env S2 with
      | some (.int i, S3) => (match S3[k]? with
        | some (.lst es) => (match ixN es.length i with
          | some j => some (.nx env, S3.set k (.lst (es.set j d)))
          | none => none)
        | _ => none)
      | _ => none)
    | _ => none) := rfl
@[simp] theorem r_nm {i : Nat} : setTg (.nm i) d env = some (env.set i (some d)) := rfl
@[simp] theorem r_tp {l : List Nat} : setTg (.tp l) (.tup ds) env = (if ds.length = l.length then some (setsE l ds env) else none) := rfl
@[simp] theorem r_sets0 : setsE [] ds env = env := by cases ds <;> rfl
@[simp] theorem r_sets {i : Nat} {l : List Nat} : setsE (i :: l) (d :: ds) env = setsE l ds (env.set i (some d)) := rfl
@[simp] theorem r_arith {f : Int → Int → Option Int} {i j : Int} : gArith f (.int i) (.int j) S = (match f i j with
  | some k => some (.int k, S)
  | none => none) := rfl
@[simp] theorem r_add {rm : Bool} {i j : Int} : gAdd rm (.int i) (.int j) S = some (.int (i + j), S) := rfl
@[simp] theorem r_sub {i j : Int} : gSub (.int i) (.int j) S = some (.int (i - j), S) := rfl
@[simp] theorem r_cmpI {f : Int → Int → Bool} {i j : Int} : gCmpI f (.int i) (.int j) S = some (.bl (f i j), S) := rfl
@[simp] theorem r_isN {n : Bool} : gIsN n x .non S = some (.bl (if n then !isNon x else isNon x), S) := rfl
@[simp] theorem r_non0 : isNon .non = true := rfl
@[simp] theorem r_non1 {i : Int} : isNon (.int i) = false := rfl
@[simp] theorem r_non2 : isNon (.tup ds) = false := rfl
@[simp] theorem r_non3 {n : Nat} : isNon (.ref n) = false := rfl
@[simp] theorem r_cInt {i : Int} : cInt [.int i] S = some (.int i, S) := rfl
@[simp] theorem r_cMin {i j : Int} : cMin [.int i, .int j] S = some (.int (if j < i then j else i), S) := rfl
@[simp] theorem r_cMax {i j : Int} : cMax [.int i, .int j] S = some (.int (if j > i then j else i), S) := rfl
@[simp] theorem r_items_tup : itemsOf S (.tup ds) = some ds := rfl
@[simp] theorem r_len_tup : cLen [.tup ds] S = some (.int ds.length, S) := rfl
@[simp] theorem r_eqv_int {i j : Int} {neg : Bool} : gEqv neg (.int i) (.int j) S = some (.bl (if neg then !(i == j) else (i == j)), S) := rfl
@[simp] theorem r_ix_tup {i : Int} : gIx (.tup ds) (.int i) S = (match atI ds i with
  | some e => some (e, S)
  | none => none) := rfl
@[simp] theorem r_mkV : mkV false ds S = (.vl ds, S) := rfl
@[simp] theorem r_mkR : mkV true ds S = (.ref S.length, S ++ [.lst ds]) := rfl
theorem r_cLst {rm : Bool} : cLst rm ds S = (if ds.length ≤ lim then some (mkV rm ds S) else none) := rfl
@[simp] theorem r_fnF {np nn : Nat} {body : SF} : fnF np nn body ds S = (if ds.length = np then (match body (startE nn ds) S with
  | some (.rt d, S1) => some (d, S1)
  | some (.nx _, S1) => some (.non, S1)
  | _ => none) else none) := rfl
@[simp] theorem r_start {nn : Nat} : startE nn ds = ds.map some ++ List.replicate (nn - ds.length) none := rfl
@[simp] theorem r_tpl {l : List Nat} : setTg (.tp l) (.vl ds) env = (if ds.length = l.length then some (setsE l ds env) else none) := rfl
@[simp] theorem t_tup0 : cTup [] S = some (.tup [], S) := rfl
@[simp] theorem t_tup1 {a : D} : cTup [a] S = some (.tup [a], S) := rfl
@[simp] theorem t_tup2 {a b : D} : cTup [a, b] S = some (.tup [a, b], S) := rfl
@[simp] theorem t_tup3 {a b c : D} : cTup [a, b, c] S = some (.tup [a, b, c], S) := rfl
@[simp] theorem t_tup4 {a b c d : D} : cTup [a, b, c, d] S = some (.tup [a, b, c, d], S) := rfl
@[simp] theorem t_lst0 {rm : Bool} : cLst rm [] S = some (mkV rm [] S) := rfl
@[simp] theorem t_lst1 {rm : Bool} {a : D} : cLst rm [a] S = some (mkV rm [a] S) := rfl
@[simp] theorem t_lst2 {rm : Bool} {a b : D} : cLst rm [a, b] S = some (mkV rm [a, b] S) := rfl
@[simp] theorem t_lst3 {rm : Bool} {a b c : D} : cLst rm [a, b, c] S = some (mkV rm [a, b, c] S) := rfl
@[simp] theorem t_lst4 {rm : Bool} {a b c d : D} : cLst rm [a, b, c, d] S = some (mkV rm [a, b, c, d] S) := rfl
@[simp] theorem t_lst5 {rm : Bool} {a b c d e : D} : cLst rm [a, b, c, d, e] S = some (mkV rm [a, b, c, d, e] S) := rfl
@[simp] theorem t_lst6 {rm : Bool} {a b c d e f : D} : cLst rm [a, b, c, d, e, f] S = some (mkV rm [a, b, c, d, e, f] S) := rfl
@[simp] theorem t_lst7 {rm : Bool} {a b c d e f g : D} : cLst rm [a, b, c, d, e, f, g] S = some (mkV rm [a, b, c, d, e, f, g] S) := rfl
@[simp] theorem t_lst8 {rm : Bool} {a b c d e f g h : D} : cLst rm [a, b, c, d, e, f, g, h] S = some (mkV rm [a, b, c, d, e, f, g, h] S) := rfl
@[simp] theorem t_lst9 {rm : Bool} {a b c d e f g h i : D} : cLst rm [a, b, c, d, e, f, g, h, i] S = some (mkV rm [a, b, c, d, e, f, g, h, i] S) := rfl
@[simp] theorem t_lst10 {rm : Bool} {a b c d e f g h i j : D} : cLst rm [a, b, c, d, e, f, g, h, i, j] S = some (mkV rm [a, b, c, d, e, f, g, h, i, j] S) := rfl
@[simp] theorem r_items_vl : itemsOf S (.vl ds) = some ds := rfl
@[simp] theorem r_list_vl : listOf S (.vl ds) = some ds := rfl
@[simp] theorem r_live_vl : liveOf S (.vl ds) = some ds := rfl
@[simp] theorem r_sq_vl : sqOf (.vl ds) = some (.fix ds) := rfl
@[simp] theorem r_sq_ref {n : Nat} : sqOf (.ref n) = some (.cell n) := rfl
@[simp] theorem r_non4 : isNon (.vl ds) = false := rfl
@[simp] theorem r_non5 {b : Bool} : isNon (.bl b) = false := rfl
@[simp] theorem r_non6 {x : Str} : isNon (.str x) = false := rfl
@[simp] theorem r_truD_vl : truD S (.vl ds) = some (!ds.isEmpty) := rfl
@[simp] theorem r_truD_tup : truD S (.tup ds) = some (!ds.isEmpty) := rfl
@[simp] theorem r_len_vl : cLen [.vl ds] S = some (.int ds.length, S) := rfl
@[simp] theorem r_ix_vl {i : Int} : gIx (.vl ds) (.int i) S = (match atI ds i with
  | some e => some (e, S)
  | none => none) := rfl
theorem r_ix_ref {k : Nat} {i : Int} {c : Cell} (h : S[k]? = some c) (hi : c.its = some c.items := by rfl) : gIx (.ref k) (.int i) S = (match atI c.items i with
  | some e => some (e, S)
  | none => none) := by
  simp only [gIx, itemsOf, h, hi]
  all_goals (cases atI c.items i <;> rfl)
@[simp] theorem r_addl {rm : Bool} {es : List D} : gAdd rm (.vl ds) (.vl es) S = (if ds.length + es.length ≤ lim then some (mkV rm (ds ++ es) S) else none) := rfl
@[simp] theorem r_addt {rm : Bool} {es : List D} : gAdd rm (.tup ds) (.tup es) S = (if ds.length + es.length ≤ lim then some (.tup (ds ++ es), S) else none) := rfl
@[simp] theorem r_adds {rm : Bool} {a b : Str} : gAdd rm (.str a) (.str b) S = (if a.length + b.length ≤ lim then some (.str (a ++ b), S) else none) := rfl
@[simp] theorem r_lof_vl {rm : Bool} : cListOf rm [.vl ds] S = some (mkV rm ds S) := rfl
@[simp] theorem r_lof_tup {rm : Bool} : cListOf rm [.tup ds] S = some (mkV rm ds S) := rfl
@[simp] theorem r_tof_vl : cTupleOf [.vl ds] S = some (.tup ds, S) := rfl
@[simp] theorem r_tof_tup : cTupleOf [.tup ds] S = some (.tup ds, S) := rfl
@[simp] theorem r_eqv_str {a b : Str} {neg : Bool} : gEqv neg (.str a) (.str b) S = some (.bl (if neg then !decide (a = b) else decide (a = b)), S) := rfl
@[simp] theorem r_cmp2i {f : Int → Int → Bool} {g : List Nat → List Nat → Bool} {i j : Int} : gCmp2 f g (.int i) (.int j) S = some (.bl (f i j), S) := rfl
@[simp] theorem r_cmp2t {f : Int → Int → Bool} {g : List Nat → List Nat → Bool} {i j : Str} : gCmp2 f g (.str i) (.str j) S = some (.bl (g i.cps.toList j.cps.toList), S) := rfl
@[simp] theorem r_eMethL {g : MF} {fo : EF} {fa : AF} : eMethL g fo fa env S = (match fo env S with
  | none => none
  | some (x, S1) => if isRef S1 x then (match fa env S1 with
    | none => none
    | some (ds, S2) => g x ds S2) else none) := rfl
@[simp] theorem r_isRef_vl : isRef S (.vl ds) = true := rfl
@[simp] theorem r_isRef {n : Nat} : isRef S (.ref n) = decide (n < S.length) := rfl
@[simp] theorem r_mIndex_vl {y : D} : mIndex (.vl ds) [y] S = (match listOf S (.vl ds) with
  | some ds => if flatD y && ds.all flatD then (match idxD y ds with
    | some j => some (.int (j : Nat), S)
    | none => none) else none
  | none => none) := by
  unfold mIndex
  rfl
@[simp] theorem r_eSl {rm : Bool} {f : EF} {l h : OPF} : eSl rm f l h env S = (match f env S with
  | none => none
  | some (x, S1) => match l env S1 with
    | none => none
    | some (lo, S2) => match h env S2 with
      | none => none
      | some (hi, S3) => gSl rm x lo hi S3) := rfl
@[simp] theorem r_oNone : oNone env S = some (none, S) := rfl
@[simp] theorem r_oSome {f : EF} : oSome f env S = (match f env S with
  | some (.int i, S1) => some (some i, S1)
  | _ => none) := rfl
@[simp] theorem r_sl_vl {rm : Bool} {lo hi : Option Int} : gSl rm (.vl ds) lo hi S = some (mkV rm (cutD ds lo hi) S) := rfl
@[simp] theorem r_sl_tup {rm : Bool} {lo hi : Option Int} : gSl rm (.tup ds) lo hi S = some (.tup (cutD ds lo hi), S) := rfl
@[simp] theorem r_iAny {f : EF} : iAny f env S = (match f env S with
  | some (.str x, S1) => some (.fix (signsD x), S1)
  | some (.ref n, S1) => some (.cell n, S1)
  | some (.tup ds, S1) => some (.fix ds, S1)
  | some (.vl ds, S1) => some (.fix ds, S1)
  | _ => none) := rfl
@[simp] theorem r_sDropE {f : EF} : sDrop f env S = (match f env S with
  | some (_, S1) => some (.nx env, S1)
  | none => none) := rfl
@[simp] theorem isi_int {i : Int} : cIsi [.int i, .ty "int"] S = some (.bl true, S) := rfl
@[simp] theorem isi_intb {i : Int} : cIsi [.int i, .ty "bool"] S = some (.bl false, S) := rfl
@[simp] theorem isi_tup : cIsi [.tup ds, .ty "tuple"] S = some (.bl true, S) := rfl
@[simp] theorem isi_str {x : Str} : cIsi [.str x, .ty "str"] S = some (.bl true, S) := rfl
@[simp] theorem isi_vl : cIsi [.vl ds, .ty "list"] S = some (.bl true, S) := rfl
@[simp] theorem isi_ints {i : Int} : cIsi [.int i, .ty "str"] S = some (.bl false, S) := rfl
@[simp] theorem isi_tups : cIsi [.tup ds, .ty "str"] S = some (.bl false, S) := rfl
@[simp] theorem nr_int {i : Int} : noRef (.int i) = true := by first | rw [noRef] | rw [noRefs]
@[simp] theorem nr_bl {b : Bool} : noRef (.bl b) = true := by first | rw [noRef] | rw [noRefs]
@[simp] theorem nr_non : noRef .non = true := by first | rw [noRef] | rw [noRefs]
@[simp] theorem nr_str {x : Str} : noRef (.str x) = true := by first | rw [noRef] | rw [noRefs]
@[simp] theorem nr_tup : noRef (.tup ds) = noRefs ds := by first | rw [noRef] | rw [noRefs]
@[simp] theorem nr_vl : noRef (.vl ds) = noRefs ds := by first | rw [noRef] | rw [noRefs]
@[simp] theorem nrs_nil : noRefs [] = true := by first | rw [noRef] | rw [noRefs]
@[simp] theorem nrs_cons {d : D} : noRefs (d :: ds) = (noRef d && noRefs ds) := by first | rw [noRef] | rw [noRefs]
theorem nrs_map {α : Type} {f : α → D} {xs : List α} (h : ∀ x ∈ xs, noRef (f x) = true) : noRefs (xs.map f) = true := noRefs_of fun d hd => by
  obtain ⟨x, hx, rfl⟩ := List.mem_map.mp hd
  exact h x hx
theorem oldok_app {T : Sto} : OldOk S (S ++ T) := ⟨by simp, fun i hi => .inl (List.getElem?_append_left hi)⟩
theorem fz_nr {n k : Nat} {z : D} (h : noRef z = true) : fz n S k z = some z := by
  cases k <;> (unfold fz; rw [if_pos h])
theorem mapO_nr {n k : Nat} : ∀ {ds : List D}, noRefs ds = true → mapO (fz n S k) ds = some ds
  | [], _ => rfl
  | d :: ds, h => by
    rw [nrs_cons, Bool.and_eq_true] at h
    unfold mapO
    rw [fz_nr h.1]
    dsimp only
    rw [mapO_nr h.2]
theorem shut_app {T : Sto} {z : D} (h : noRef z = true) : shut S z (S ++ T) = some (z, S) := by
  unfold shut
  rw [if_pos oldok_app, fz_nr h]
  dsimp only
  rw [List.take_left']
  rfl
theorem shut_same {z : D} (h : noRef z = true) : shut S z S = some (z, S) := by
  have := shut_app (S := S) (T := []) h
  rwa [List.append_nil] at this
theorem shut_ref {T : Sto} {es : List D} (h : noRefs es = true) : shut S (.ref S.length) (S ++ .lst es :: T) = some (.vl es, S) := by
  unfold shut
  rw [if_pos oldok_app]
  have e : fz S.length (S ++ .lst es :: T) 20 (.ref S.length) = some (.vl es) := by
    unfold fz
    rw [if_neg (by simp [noRef])]
    dsimp only
    rw [if_neg (Nat.lt_irrefl _), List.getElem?_append_right (Nat.le_refl _), Nat.sub_self]
    dsimp only [List.getElem?_cons_zero]
    rw [mapO_nr h]
  rw [e]
  dsimp only
  rw [List.take_left']
  rfl
theorem oldok_set {T : Sto} {g : Nat} {es : List D} (h : noRefs es = true) : OldOk S (S.set g (.lst es) ++ T) := ⟨by simp, fun i hi => by
  rw [List.getElem?_append_left (by simpa using hi)]
  by_cases e : g = i
  · subst e
    exact .inr ⟨.lst es, by rw [List.getElem?_set_self hi], h⟩
  · exact .inl (by rw [List.getElem?_set_ne e])⟩
theorem take_set {T : Sto} {g : Nat} {c : Cell} : (S.set g c ++ T).take S.length = S.set g c := by
  rw [List.take_append_of_le_length (by simp)]
  rw [List.take_of_length_le (by simp)]
theorem shut_set {T : Sto} {g : Nat} {es : List D} {z : D} (h : noRefs es = true) (hz : noRef z = true) : shut S z (S.set g (.lst es) ++ T) = some (z, S.set g (.lst es)) := by
  unfold shut
  rw [if_pos (oldok_set h), fz_nr hz]
  dsimp only
  rw [take_set]
theorem shut_set0 {g : Nat} {es : List D} {z : D} (h : noRefs es = true) (hz : noRef z = true) : shut S z (S.set g (.lst es)) = some (z, S.set g (.lst es)) := by
  have := shut_set (S := S) (T := []) (g := g) h hz
  rwa [List.append_nil] at this
@[simp] theorem r_sealed {g : CF} : sealed g ds S = (match g ds S with
  | some (z, S') => shut S z S'
  | none => none) := rfl
theorem r_sealedR {g : CF} : sealedR g ds S = (match g ds S with
  | some (z, S') => shutR S z S'
  | none => none) := rfl
theorem shutR_vl {T : Sto} {es : List D} (h : noRefs es = true) : shutR S (.ref S.length) (S ++ .lst es :: T) = some (.ref S.length, S ++ [.lst es]) := by
  unfold shutR
  rw [if_pos oldok_app]
  dsimp only
  rw [if_neg (Nat.lt_irrefl _), List.getElem?_append_right (Nat.le_refl _), Nat.sub_self]
  dsimp only [List.getElem?_cons_zero]
  rw [if_pos h, List.take_left']
  rfl
end
end Lv
namespace Lv
open PySem PySem.Spec PyProof.Rows L2
theorem forL_fix {b : SF} {t : Tg} {ds : List D} (P : Nat → Env → Sto → Prop) : ∀ (n i : Nat) (env : Env) (S : Sto), P i env S → i ≤ ds.length → ds.length < n + i →
    (∀ i d env S, ds[i]? = some d → P i env S → ∃ e1, setTg t d env = some e1 ∧ ∃ e2 S2, b e1 S = some (.nx e2, S2) ∧ P (i + 1) e2 S2) →
    ∃ e' S', forL b t (.fix ds) n i env S = some (.nx e', S') ∧ P ds.length e' S'
  | 0, i, env, S, h0, hi, hn, hs => by omega
  | n + 1, i, env, S, h0, hi, hn, hs => by
    unfold forL
    simp only [nextD]
    cases q : ds[i]? with
    | none =>
      have : ds.length ≤ i := List.getElem?_eq_none_iff.mp q
      have e : i = ds.length := by omega
      subst e
      exact ⟨env, S, rfl, h0⟩
    | some d =>
      obtain ⟨e1, h1, e2, S2, h2, h3⟩ := hs i d env S q h0
      have hl := (List.getElem?_eq_some_iff.mp q).1
      simp only [h1, h2]
      exact forL_fix P n (i + 1) e2 S2 h3 (by omega) (by omega) hs

theorem compL_fix {t : Tg} {c : TF} {f : EF} {kC : Nat} {env : Env} {ds : List D} (P : Nat → List D → Sto → Prop) (hk : ∀ i acc S, P i acc S → S[kC]? = some (.lst acc)) : ∀ (n i : Nat) (acc : List D) (S : Sto), P i acc S → i ≤ ds.length → ds.length < n + i →
    (∀ i d acc S, ds[i]? = some d → P i acc S → ∃ e1, setTg t d env = some e1 ∧ ∃ b S2, c e1 S = some (b, S2) ∧ (b = false → P (i + 1) acc S2) ∧ (b = true → ∃ y S3, f e1 S2 = some (y, S3) ∧ S3[kC]? = some (.lst acc) ∧ acc.length < lim ∧ P (i + 1) (acc ++ [y]) (S3.set kC (.lst (acc ++ [y]))))) →
    ∃ acc' S', compL t c f (.fix ds) kC env n i S = some S' ∧ P ds.length acc' S'
  | 0, i, acc, S, h0, hi, hn, hs => by omega
  | n + 1, i, acc, S, h0, hi, hn, hs => by
    unfold compL
    simp only [nextD]
    cases q : ds[i]? with
    | none =>
      have : ds.length ≤ i := List.getElem?_eq_none_iff.mp q
      have e : i = ds.length := by omega
      subst e
      exact ⟨acc, S, rfl, h0⟩
    | some d =>
      obtain ⟨e1, h1, b, S2, h2, h3, h4⟩ := hs i d acc S q h0
      have hl := (List.getElem?_eq_some_iff.mp q).1
      simp only [h1, h2]
      cases b with
      | false => exact compL_fix P hk n (i + 1) acc S2 (h3 rfl) (by omega) (by omega) hs
      | true =>
        obtain ⟨y, S3, h5, h6, h7, h8⟩ := h4 rfl
        simp only [h5, h6, if_pos h7]
        exact compL_fix P hk n (i + 1) (acc ++ [y]) _ h8 (by omega) (by omega) hs
theorem new_last {S : Sto} {c : Cell} : (S ++ [c])[S.length]? = some c := by simp
theorem set_last {S : Sto} {c c' : Cell} : (S ++ [c]).set S.length c' = S ++ [c'] := by
  rw [List.set_append_right _ _ (Nat.le_refl _), Nat.sub_self]
  rfl
theorem filter_take {α β : Type} {p : α → Bool} {h : α → β} {ds : List α} {i : Nat} {d : α} (e : ds[i]? = some d) : ((ds.take (i + 1)).filter p).map h = ((ds.take i).filter p).map h ++ (if p d = true then [h d] else []) := by
  rw [List.take_add_one, e]
  simp only [Option.toList_some, List.filter_append, List.map_append]
  congr 1
  cases q : p d <;> simp [q]
theorem filter_len {α β : Type} {p : α → Bool} {h : α → β} (ds : List α) (i : Nat) : (((ds.take i).filter p).map h).length ≤ ds.length := by
  rw [List.length_map]
  exact Nat.le_trans (List.length_filter_le _ _) (by rw [List.length_take]; exact Nat.min_le_right _ _)
theorem comp_if {α : Type} {n : Nat} {own : List Nat} {it : IFn} {t : Tg} {c : TF} {f : EF} {env : Env} {S S1 : Sto} {xs : List α} {enc : α → D} (p : α → Bool) (h : α → D) (hit : it env S = some (.fix (xs.map enc), S1)) (hn : xs.length < n) (hl : xs.length ≤ 1000000)
    (hb : ∀ x ∈ xs, ∀ S' : Sto, ∃ e1, setTg t (enc x) (wipeE env own) = some e1 ∧ c e1 S' = some (p x, S') ∧ (p x = true → f e1 S' = some (h x, S'))) (hr : ∀ x ∈ xs, p x = true → noRef (h x) = true) :
    eComp false n own it t c f env S = some (.vl ((xs.filter p).map h), S1) := by
  unfold eComp
  rw [hit]
  dsimp only
  have hlen : (xs.map enc).length = xs.length := List.length_map _
  obtain ⟨acc, S', e, h1, h2⟩ := compL_fix (t := t) (c := c) (f := f) (kC := S1.length) (env := wipeE env own) (ds := xs.map enc) (fun i acc S' => S' = S1 ++ [.lst acc] ∧ acc = ((xs.take i).filter p).map h)
    (by rintro i acc S' ⟨rfl, _⟩; exact new_last) n 0 [] (S1 ++ [.lst []]) ⟨rfl, by simp⟩ (Nat.zero_le _) (by omega) (by
      rintro i d acc S' hd ⟨rfl, rfl⟩
      rw [List.getElem?_map] at hd
      cases hx : xs[i]? with
      | none => rw [hx] at hd; cases hd
      | some x =>
        rw [hx] at hd
        cases hd
        obtain ⟨e1, k1, k2, k3⟩ := hb x (List.mem_of_getElem? hx) (S1 ++ [.lst (((xs.take i).filter p).map h)])
        refine ⟨e1, k1, p x, _, k2, fun hp => ⟨rfl, ?_⟩, fun hp => ⟨h x, _, k3 hp, new_last, Nat.lt_of_le_of_lt (Nat.le_trans (filter_len xs i) hl) (by decide), ?_, ?_⟩⟩
        · rw [filter_take hx, hp]; simp
        · rw [set_last]
        · rw [filter_take hx, hp]; simp)
  rw [e, h1]
  dsimp only
  rw [hlen, List.take_length] at h2
  subst h2
  unfold finC
  rw [if_neg (by decide)]
  refine shut_ref (T := []) (noRefs_of fun d hd => ?_)
  obtain ⟨x, hx, rfl⟩ := List.mem_map.mp hd
  rw [List.mem_filter] at hx
  exact hr x hx.1 hx.2
theorem comp_all {α : Type} {n : Nat} {own : List Nat} {it : IFn} {t : Tg} {f : EF} {env : Env} {S S1 : Sto} {xs : List α} {enc : α → D} (h : α → D) (hit : it env S = some (.fix (xs.map enc), S1)) (hn : xs.length < n) (hl : xs.length ≤ 1000000)
    (hb : ∀ x ∈ xs, ∀ S' : Sto, ∃ e1, setTg t (enc x) (wipeE env own) = some e1 ∧ f e1 S' = some (h x, S')) (hr : ∀ x ∈ xs, noRef (h x) = true) :
    eComp false n own it t tYesF f env S = some (.vl (xs.map h), S1) := by
  have := comp_if (own := own) (c := tYesF) (f := f) (fun _ => true) h hit hn hl (fun x hx S' => by
    obtain ⟨e1, k1, k2⟩ := hb x hx S'
    exact ⟨e1, k1, rfl, fun _ => k2⟩) (fun x hx _ => hr x hx)
  rw [this, List.filter_eq_self.mpr (fun _ _ => rfl)]
def Sm (k : Nat) (i : Int) : Prop := i.natAbs < 2 ^ k
theorem Sm.mono {a b : Nat} {i : Int} (h : Sm a i) (hb : a ≤ b) : Sm b i := Nat.lt_of_lt_of_le h (Nat.pow_le_pow_right (by decide) hb)
theorem Sm.mul {a b : Nat} {i j : Int} (h : Sm a i) (h' : Sm b j) : Sm (a + b) (i * j) := by
  unfold Sm at *
  rw [Int.natAbs_mul, Nat.pow_add]
  exact Nat.mul_lt_mul'' h h'
theorem Sm.add {a : Nat} {i j : Int} (h : Sm a i) (h' : Sm a j) : Sm (a + 1) (i + j) := by
  unfold Sm at *
  rw [Nat.pow_succ]
  omega
theorem Sm.of {k : Nat} {i : Int} (h0 : 0 ≤ i) (h : i < 2 ^ k) : Sm k i := by
  unfold Sm
  have : ((2 ^ k : Nat) : Int) = 2 ^ k := by simp
  omega
theorem Sm.log {k : Nat} {i : Int} (h : Sm k i) : i.natAbs.log2 ≤ k := by
  by_cases h0 : i.natAbs = 0
  · rw [h0]; exact Nat.zero_le _
  · exact Nat.le_of_lt ((Nat.log2_lt h0).mpr h)
theorem mul_ok {a b : Nat} {i j : Int} (h : Sm a i) (h' : Sm b j) (hl : a + b < 1000000) : fMul i j = some (i * j) := by
  unfold fMul
  rw [if_pos]
  have := h.log
  have := h'.log
  omega
theorem mod_ok {i j : Int} (h : 0 < j) : fMod i j = some (i % j) := if_pos h
theorem div_ok {k : Nat} {i j : Int} (h : 0 < j) (hj : Sm k j) (hk : k < 9000) : fDiv i j = some (i / j) := if_pos ⟨h, Nat.lt_of_le_of_lt hj.log hk⟩
theorem cons_eq {f g : SF} {env e1 : Env} {S S1 : Sto} (h : f env S = some (.nx e1, S1)) : sCons f g env S = g e1 S1 := by
  unfold sCons
  rw [h]
theorem cons_rt {f g : SF} {env : Env} {S S1 : Sto} {d : D} (h : f env S = some (.rt d, S1)) : sCons f g env S = some (.rt d, S1) := by
  unfold sCons
  rw [h]
theorem fn_eq {np nn : Nat} {body : SF} {ds : List D} {S S1 : Sto} {d : D} (hl : ds.length = np) (h : body (startE nn ds) S = some (.rt d, S1)) : fnF np nn body ds S = some (d, S1) := by
  unfold fnF
  rw [if_pos hl, h]
theorem for_eq {n : Nat} {t : Tg} {it : IFn} {b : SF} {env : Env} {S S1 : Sto} {src : Src} {r : Option (Out × Sto)} (h : it env S = some (src, S1)) (hl : forL b t src n 0 env S1 = r) : sFor n t it b env S = r := by
  unfold sFor
  rw [h]
  exact hl

theorem at0 {a b c : D} : atI [a, b, c] 0 = some a := rfl
theorem at1 {a b c : D} : atI [a, b, c] 1 = some b := rfl
theorem at2 {a b c : D} : atI [a, b, c] 2 = some c := rfl
@[simp] theorem ix20 {x y : D} : atI [x, y] 0 = some x := rfl
@[simp] theorem ix21 {x y : D} : atI [x, y] 1 = some y := rfl
theorem ix0 : ixN 3 0 = some 0 := rfl
theorem ix2 : ixN 3 2 = some 2 := rfl
noncomputable def b_hash : SF := (sCons (sSet 2 (eBin (gArith fMod) (eCall cInt (aCons (eBin (gAdd false) (eBin (gAdd false) (eBin (gAdd false) (eBin (gArith fMul) (eVar 0) (eC (.int 1140671))) (eBin (gArith fMul) (eBin (gArith fMul) (eC (.int 27644437)) (eVar 1)) (eVar 1))) (eBin (gArith fMul) (eC (.int 131)) (eVar 1))) (eC (.int 19))) aNil)) (eC (.int 2147483629)))) (sCons (sSet 2 (eBin (gArith fMod) (eCall cInt (aCons (eBin (gAdd false) (eBin (gAdd false) (eBin (gArith fMul) (eVar 2) (eVar 2)) (eBin (gArith fMul) (eC (.int 62089)) (eVar 1))) (eC (.int 32416187))) aNil)) (eC (.int 2147483587)))) (sCons (sRet (eBin (gArith fMod) (eCall cInt (aCons (eBin (gArith fMul) (eVar 2) (eC (.int 48271))) aNil)) (eC (.int 2147483647)))) sNil)))
noncomputable def c_hash : CF := sealed (fnF 2 3 b_hash)
noncomputable def b_random (fu : Nat) : SF := (sCons (sIf (truB (eBin (gCmpI fun i j => decide (j < i)) (eBin gIx (eVar 0) (eC (.int 0))) (eC (.int 0)))) (sCons (sSet 2 (eBin (gArith fMod) (eCall cInt (aCons (eBin gIx (eVar 0) (eC (.int 0))) aNil)) (eVar 1))) (sCons (sSub (eVar 0) (eC (.int 0)) (eBin (gArith fDiv) (eBin gIx (eVar 0) (eC (.int 0))) (eVar 1))) (sCons (sRet (eVar 2)) sNil))) sNil) (sCons (sSet 2 (eC (.int 0))) (sCons (sFor fu (.nm 3) (iRange1 (aCons (eBin (gAdd false) (eC (.int 1)) (eBin (gArith fDiv) (eBits (eVar 1)) (eC (.int 30)))) aNil)) (sCons (sSub (eVar 0) (eC (.int 2)) (eBin (gAdd false) (eBin gIx (eVar 0) (eC (.int 2))) (eC (.int 1)))) (sCons (sSet 2 (eBin (gAdd false) (eBin (gArith fMul) (eVar 2) (eC (.int 2147483587))) (eCall c_hash (aCons (eBin gIx (eVar 0) (eC (.int 1))) (aCons (eBin gIx (eVar 0) (eC (.int 2))) aNil))))) sNil))) (sCons (sRet (eBin (gArith fMod) (eCall cInt (aCons (eVar 2) aNil)) (eVar 1))) sNil))))
noncomputable def u_random (fu : Nat) : CF := fnF 2 4 (b_random fu)
noncomputable def c_random (fu : Nat) : CF := sealed (u_random fu)
theorem hash_ok {S : Sto} {a b : Int} (ha : 0 ≤ a ∧ a < 2 ^ 31) (hb : 0 ≤ b ∧ b < 2 ^ 64) : ∃ h : Int, c_hash [.int a, .int b] S = some (.int h, S) ∧ 0 ≤ h ∧ h < 2 ^ 31 := by
  have sa : Sm 31 a := .of ha.1 ha.2
  have sb : Sm 64 b := .of hb.1 hb.2
  have k1 := mul_ok sa (show Sm 21 1140671 by unfold Sm; decide) (by decide)
  have k2 := mul_ok (show Sm 25 27644437 by unfold Sm; decide) sb (by decide)
  have k3 := mul_ok ((show Sm 25 27644437 by unfold Sm; decide).mul sb) sb (by decide)
  have k4 := mul_ok (show Sm 8 131 by unfold Sm; decide) sb (by decide)
  have k5 : ∀ z : Int, fMod z 2147483629 = some (z % 2147483629) := fun z => mod_ok (by decide)
  have k6 : ∀ z : Int, fMod z 2147483587 = some (z % 2147483587) := fun z => mod_ok (by decide)
  have k7 : ∀ z : Int, fMod z 2147483647 = some (z % 2147483647) := fun z => mod_ok (by decide)
  have sm : ∀ z m : Int, 0 < m → m ≤ 2 ^ 31 → Sm 31 (z % m) := fun z m h0 h1 => .of (Int.emod_nonneg z (by omega)) (Int.lt_of_lt_of_le (Int.emod_lt_of_pos z h0) h1)
  have k8 : ∀ z : Int, fMul (z % 2147483629) (z % 2147483629) = some (z % 2147483629 * (z % 2147483629)) := fun z => mul_ok (sm z _ (by decide) (by decide)) (sm z _ (by decide) (by decide)) (by decide)
  have k9 := mul_ok (show Sm 16 62089 by unfold Sm; decide) sb (by decide)
  have k10 : ∀ z : Int, fMul (z % 2147483587) 48271 = some (z % 2147483587 * 48271) := fun z => mul_ok (sm z _ (by decide) (by decide)) (show Sm 16 48271 by unfold Sm; decide) (by decide)
  refine ⟨((((a * 1140671 + 27644437 * b * b + 131 * b + 19) % 2147483629 * ((a * 1140671 + 27644437 * b * b + 131 * b + 19) % 2147483629) + 62089 * b + 32416187) % 2147483587) * 48271) % 2147483647, ?_, Int.emod_nonneg _ (by decide), Int.lt_trans (Int.emod_lt_of_pos _ (by decide)) (by decide)⟩
  simp [c_hash, b_hash, shut_same, k1, k2, k3, k4, k5, k6, k7, k8, k9, k10]
theorem bits_le {k : Nat} {i : Int} (h : Sm k i) : Builtin.Int.intBits i ≤ k + 1 := by
  have := h.log
  unfold Builtin.Int.intBits
  split <;> omega

structure Gn where
  a : Int
  b : Int
  c : Int
def gc (G : Gn) : Cell := .lst [.int G.a, .int G.b, .int G.c]
def OkG (B : Int) (G : Gn) : Prop := Sm 2000 G.a ∧ (0 ≤ G.b ∧ G.b < 2 ^ 31) ∧ 0 ≤ G.c ∧ G.c ≤ B
theorem OkG.mono {B C : Int} {G : Gn} (h : OkG B G) (hc : B ≤ C) : OkG C G := ⟨h.1, h.2.1, h.2.2.1, Int.le_trans h.2.2.2 hc⟩
noncomputable def bRand (fu : Nat) : SF := (sCons (sSub (eVar 0) (eC (.int 2)) (eBin (gAdd false) (eBin gIx (eVar 0) (eC (.int 2))) (eC (.int 1)))) (sCons (sSet 2 (eBin (gAdd false) (eBin (gArith fMul) (eVar 2) (eC (.int 2147483587))) (eCall c_hash (aCons (eBin gIx (eVar 0) (eC (.int 1))) (aCons (eBin gIx (eVar 0) (eC (.int 2))) aNil))))) sNil))
theorem random_pos {fu : Nat} {S : Sto} {g : Nat} {b : Int} {G : Gn} (eg : S[g]? = some (gc G)) (hp : 0 < G.a) (h1 : 1 ≤ b) (h2 : b < 2 ^ 120) :
    u_random fu [.ref g, .int b] S = some (.int (G.a % b), S.set g (gc ⟨G.a / b, G.b, G.c⟩)) := by
  have sb : Sm 120 b := .of (by omega) h2
  have e1 := mod_ok (i := G.a) (j := b) (by omega)
  have e2 := div_ok (i := G.a) (j := b) (by omega) sb (by decide)
  unfold gc at eg ⊢
  simp [u_random, b_random, r_ix_ref eg, Cell.items, at0, hp, e1, e2, eg, ix0]
theorem rand_turn {fu : Nat} {S : Sto} {g : Nat} {b g0 g1 g2 dr : Int} {k : Nat} {d : D} (eg : S[g]? = some (.lst [.int g0, .int g1, .int g2])) (s1 : 0 ≤ g1 ∧ g1 < 2 ^ 31) (s2 : 0 ≤ g2 ∧ g2 + 1 < 2 ^ 64) (hdr : Sm k dr) (hk : k < 900000) :
    ∃ h : Int, 0 ≤ h ∧ h < 2 ^ 31 ∧ bRand fu [some (.ref g), some (.int b), some (.int dr), some d] S = some (.nx [some (.ref g), some (.int b), some (.int (dr * 2147483587 + h)), some d], S.set g (.lst [.int g0, .int g1, .int (g2 + 1)])) := by
  have hgl := (List.getElem?_eq_some_iff.mp eg).1
  have es2 : (S.set g (.lst [.int g0, .int g1, .int (g2 + 1)]))[g]? = some (.lst [.int g0, .int g1, .int (g2 + 1)]) := List.getElem?_set_self hgl
  obtain ⟨h, hh, h0, h9⟩ := hash_ok (S := S.set g (.lst [.int g0, .int g1, .int (g2 + 1)])) (a := g1) (b := g2 + 1) s1 ⟨by omega, s2.2⟩
  have em := mul_ok hdr (show Sm 31 2147483587 by unfold Sm; decide) (by omega)
  refine ⟨h, h0, h9, ?_⟩
  simp only [bRand, r_sCons, r_sSub, r_sSet, r_eBin, r_eCall, r_aCons, r_aNil, r_eC, r_eVar, r_ix_ref eg, r_ix_ref es2, Cell.items, at1, at2, eg, ix2, hh, em, r_add, r_arith, r_sNil, List.getElem?_cons_zero, List.getElem?_cons_succ, List.length_cons, List.length_nil, List.set_cons_zero, List.set_cons_succ, Nat.zero_add, Nat.reduceAdd]
theorem rand_loop {fu : Nat} (hf : 10000 ≤ fu) {S : Sto} {g : Nat} {b g0 g1 g2 : Int} {n : Nat} (eg : S[g]? = some (.lst [.int g0, .int g1, .int g2])) (s1 : 0 ≤ g1 ∧ g1 < 2 ^ 31) (s2 : 0 ≤ g2 ∧ g2 ≤ 2 ^ 60) (hn : n ≤ 5) :
    ∃ (dr : Int) (tv : Option D) (g2' : Int), forL (bRand fu) (.nm 3) (.fix (rangeD 0 n)) fu 0 [some (.ref g), some (.int b), some (.int 0), none] S = some (.nx [some (.ref g), some (.int b), some (.int dr), tv], S.set g (.lst [.int g0, .int g1, .int g2'])) ∧ g2 ≤ g2' ∧ g2' ≤ g2 + 5 := by
  have hgl := (List.getElem?_eq_some_iff.mp eg).1
  have hlen : (rangeD 0 n).length = n := by simp [rangeD]
  have e0 : S = S.set g (.lst [.int g0, .int g1, .int g2]) := by
    refine (List.ext_getElem? fun k => ?_)
    by_cases hk : g = k
    · subst hk
      rw [List.getElem?_set_self hgl, eg]
    · rw [List.getElem?_set_ne hk]
  obtain ⟨e', S', hl, dr, tv, g2', rfl, hdr, rfl, q1, q2⟩ := forL_fix (b := bRand fu) (t := .nm 3) (ds := rangeD 0 n)
      (fun i env S' => ∃ (dr : Int) (tv : Option D) (g2' : Int), env = [some (.ref g), some (.int b), some (.int dr), tv] ∧ Sm (32 * i + 1) dr ∧ S' = S.set g (.lst [.int g0, .int g1, .int g2']) ∧ g2 ≤ g2' ∧ g2' ≤ g2 + i)
      fu 0 [some (.ref g), some (.int b), some (.int 0), none] S ⟨0, none, g2, rfl, by unfold Sm; decide, e0, by omega, by omega⟩ (Nat.zero_le _) (by omega) (by
        rintro i d env S2 hd ⟨dr, tv, g2', rfl, hdr, rfl, q1, q2⟩
        have hi : i < n := by
          have := (List.getElem?_eq_some_iff.mp hd).1
          omega
        have es : (S.set g (.lst [.int g0, .int g1, .int g2']))[g]? = some (.lst [.int g0, .int g1, .int g2']) := List.getElem?_set_self hgl
        obtain ⟨h, h0, h9, hh⟩ := rand_turn (fu := fu) (b := b) (d := d)  es s1 ⟨by omega, by omega⟩ hdr (by omega)
        rw [List.set_set] at hh
        refine ⟨_, rfl, _, _, hh, dr * 2147483587 + h, some d, g2' + 1, rfl, ?_, rfl, by omega, by push_cast; omega⟩
        have m1 : Sm (32 * i + 1 + 31) (dr * 2147483587) := hdr.mul (show Sm 31 2147483587 by unfold Sm; decide)
        have m2 : Sm (32 * i + 1 + 31) h := (Sm.of h0 h9).mono (by omega)
        exact (m1.add m2).mono (by omega))
  exact ⟨dr, tv, g2', hl, q1, by omega⟩
theorem rand_it {S : Sto} {g n : Nat} {b : Int} (hn : (1 + ((Builtin.Int.intBits b : Nat) : Int) / 30).toNat = n) (h0 : 0 ≤ ((Builtin.Int.intBits b : Nat) : Int) / 30) (h4 : ((Builtin.Int.intBits b : Nat) : Int) / 30 ≤ 4) :
    iRange1 (aCons (eBin (gAdd false) (eC (.int 1)) (eBin (gArith fDiv) (eBits (eVar 1)) (eC (.int 30)))) aNil) [some (.ref g), some (.int b), some (.int 0), none] S = some (.fix (rangeD 0 n), S) := by
  have hb30 : fDiv ((Builtin.Int.intBits b : Nat) : Int) 30 = some (((Builtin.Int.intBits b : Nat) : Int) / 30) := div_ok (by decide) (show Sm 5 30 by unfold Sm; decide) (by decide)
  unfold iRange1
  simp only [r_aCons, r_eBin, r_eC, r_eBits, r_eVar, List.getElem?_cons_succ, List.getElem?_cons_zero, r_arith, hb30, r_add, r_aNil]
  rw [if_pos ⟨by omega, by omega⟩, hn]
theorem random_neg {fu : Nat} {S S' : Sto} {g n : Nat} {b g0 g1 g2 dr : Int} {tv : Option D} (eg : S[g]? = some (.lst [.int g0, .int g1, .int g2])) (hp : ¬ 0 < g0) (h1 : 1 ≤ b)
    (hit : iRange1 (aCons (eBin (gAdd false) (eC (.int 1)) (eBin (gArith fDiv) (eBits (eVar 1)) (eC (.int 30)))) aNil) [some (.ref g), some (.int b), some (.int 0), none] S = some (.fix (rangeD 0 n), S))
    (hl : forL (bRand fu) (.nm 3) (.fix (rangeD 0 n)) fu 0 [some (.ref g), some (.int b), some (.int 0), none] S = some (.nx [some (.ref g), some (.int b), some (.int dr), tv], S')) :
    u_random fu [.ref g, .int b] S = some (.int (dr % b), S') := by
  have e1 := mod_ok (i := dr) (j := b) (by omega)
  refine fn_eq rfl ((cons_eq (e1 := [some (.ref g), some (.int b), none, none]) ?_).trans ((cons_eq (e1 := [some (.ref g), some (.int b), some (.int 0), none]) rfl).trans ((cons_eq (for_eq hit hl)).trans (cons_rt ?_))))
  · simp [r_ix_ref eg, Cell.items, at0, hp]
  · simp [e1]
theorem random_ok {fu : Nat} (hf : 10000 ≤ fu) {S : Sto} {g : Nat} {B b : Int} {G : Gn} (eg : S[g]? = some (gc G)) (hG : OkG B G) (hB : B ≤ 2 ^ 60) (h1 : 1 ≤ b) (h2 : b < 2 ^ 120) :
    ∃ (r : Int) (G' : Gn), c_random fu [.ref g, .int b] S = some (.int r, S.set g (gc G')) ∧ 0 ≤ r ∧ r < b ∧ OkG (B + 5) G' := by
  obtain ⟨s0, s1, s2, s3⟩ := hG
  have hgl := (List.getElem?_eq_some_iff.mp eg).1
  have sb : Sm 120 b := .of (by omega) h2
  have hs : ∀ (r : Int) (G' : Gn), u_random fu [.ref g, .int b] S = some (.int r, S.set g (gc G')) → c_random fu [.ref g, .int b] S = some (.int r, S.set g (gc G')) := fun r G' h => by
    unfold c_random
    rw [r_sealed, h]
    exact shut_set0 rfl rfl
  by_cases hp : 0 < G.a
  · refine ⟨G.a % b, _, hs _ _ (random_pos eg hp h1 h2), Int.emod_nonneg _ (by omega), Int.emod_lt_of_pos _ (by omega), ?_, s1, s2, by show G.c ≤ _; omega⟩
    show Sm 2000 (G.a / b)
    unfold Sm at s0 ⊢
    have q1 : 0 ≤ G.a / b := Int.ediv_nonneg (by omega) (by omega)
    have q2 : G.a / b ≤ G.a := Int.ediv_le_self b (by omega)
    omega
  · have hbits := bits_le sb
    have hn0 : 0 ≤ ((Builtin.Int.intBits b : Nat) : Int) / 30 := by omega
    have hn1 : ((Builtin.Int.intBits b : Nat) : Int) / 30 ≤ 4 := by omega
    obtain ⟨n, hn⟩ : ∃ n : Nat, (1 + ((Builtin.Int.intBits b : Nat) : Int) / 30).toNat = n := ⟨_, rfl⟩
    obtain ⟨dr, tv, g2', hl, q1, q2⟩ := rand_loop hf (b := b) (n := n) eg s1 ⟨s2, by omega⟩ (by omega)
    exact ⟨dr % b, ⟨G.a, G.b, g2'⟩, hs _ _ (random_neg eg hp h1 (rand_it hn hn0 hn1) hl), Int.emod_nonneg _ (by omega), Int.emod_lt_of_pos _ (by omega), s0, s1, by show 0 ≤ g2'; omega, by show g2' ≤ _; omega⟩
end Lv
namespace Com
open PySem PySem.Spec PyProof.Rows L2 Lv
-- _law_cell: 0 script, 1 index
noncomputable def b__law_cell (fu : Nat) : SF := (sCons (sIf (truB (eBin (gCmpI fun i j => decide (i < j)) (eVar 1) (eCall cLen (aCons (eVar 0) aNil)))) (sCons (sRet (eBin gIx (eVar 0) (eVar 1))) sNil) sNil) (sCons (sRet (eBin (gArith fMod) (eCall cSum (aCons (eSl false (eVar 0) oNone (oSome (eC (.int 1)))) aNil)) (eC (.int 1000003)))) sNil))
noncomputable def u__law_cell (fu : Nat) : CF := fnF 2 2 (b__law_cell fu)
noncomputable def c__law_cell (fu : Nat) : CF := sealed (u__law_cell fu)
-- _law_generator: 0 script, 1 index, 2 seed
noncomputable def bv__law_generator (fu : Nat) : SF := (sCons (sSet 2 (eCall (Com.c__law_cell fu) (aCons (eVar 0) (aCons (eVar 1) aNil)))) (sCons (sRet (eCall (cLst true) (aCons (eBin (gArith fMod) (eCall cInt (aCons (eCall cMax (aCons (eBin gSub (eVar 2) (eBin (gArith fPow) (eC (.int 10)) (eC (.int 18)))) (aCons (eC (.int 0)) aNil))) aNil)) (eBin (gArith fPow) (eBin (gArith fPow) (eC (.int 10)) (eC (.int 60))) (eC (.int 10)))) (aCons (eBin (gArith fMod) (eCall cInt (aCons (eVar 2) aNil)) (eC (.int 2147483647))) (aCons (eBin (gArith fMul) (eC (.int 1000)) (eVar 1)) aNil))))) sNil))
noncomputable def uv__law_generator (fu : Nat) : CF := fnF 2 3 (bv__law_generator fu)
noncomputable def v__law_generator (fu : Nat) : CF := sealedR (uv__law_generator fu)
-- _law_pairs: 0 row, 1 low, 2 high
-- _law_near: 0 low, 1 high
-- _law_put: 0 pairs, 1 at, 2 low, 3 high
-- _law_tested: 0 names, 1 deed, 2 pairs, 3 at, 4 number, 5 low, 6 high, 7 to, 8 down, 9 up, 10 cut, 11 mate
-- _law_comes: 0 names, 1 deed, 2 pairs, 3 low, 4 high, 5 down, 6 up, 7 under, 8 over
-- _law_hash: 0 seed, 1 index, 2 mixed
noncomputable def b__law_hash (fu : Nat) : SF := (sCons (sSet 2 (eBin (gArith fMod) (eCall cInt (aCons (eBin (gAdd false) (eBin (gAdd false) (eBin (gAdd false) (eBin (gArith fMul) (eVar 0) (eC (.int 1140671))) (eBin (gArith fMul) (eBin (gArith fMul) (eC (.int 27644437)) (eVar 1)) (eVar 1))) (eBin (gArith fMul) (eC (.int 131)) (eVar 1))) (eC (.int 19))) aNil)) (eC (.int 2147483629)))) (sCons (sSet 2 (eBin (gArith fMod) (eCall cInt (aCons (eBin (gAdd false) (eBin (gAdd false) (eBin (gArith fMul) (eVar 2) (eVar 2)) (eBin (gArith fMul) (eC (.int 62089)) (eVar 1))) (eC (.int 32416187))) aNil)) (eC (.int 2147483587)))) (sCons (sRet (eBin (gArith fMod) (eCall cInt (aCons (eBin (gArith fMul) (eVar 2) (eC (.int 48271))) aNil)) (eC (.int 2147483647)))) sNil)))
noncomputable def u__law_hash (fu : Nat) : CF := fnF 2 3 (b__law_hash fu)
noncomputable def c__law_hash (fu : Nat) : CF := sealed (u__law_hash fu)
-- _law_random: 0 generator, 1 bound, 2 drawn, 3 turn
noncomputable def b__law_random (fu : Nat) : SF := (sCons (sIf (truB (eBin (gCmpI fun i j => decide (j < i)) (eBin gIx (eVar 0) (eC (.int 0))) (eC (.int 0)))) (sCons (sSet 2 (eBin (gArith fMod) (eCall cInt (aCons (eBin gIx (eVar 0) (eC (.int 0))) aNil)) (eVar 1))) (sCons (sSub (eVar 0) (eC (.int 0)) (eBin (gArith fDiv) (eBin gIx (eVar 0) (eC (.int 0))) (eVar 1))) (sCons (sRet (eVar 2)) sNil))) sNil) (sCons (sSet 2 (eC (.int 0))) (sCons (sFor fu (.nm 3) (iRange1 (aCons (eBin (gAdd false) (eC (.int 1)) (eBin (gArith fDiv) (eBits (eVar 1)) (eC (.int 30)))) aNil)) (sCons (sSub (eVar 0) (eC (.int 2)) (eBin (gAdd false) (eBin gIx (eVar 0) (eC (.int 2))) (eC (.int 1)))) (sCons (sSet 2 (eBin (gAdd false) (eBin (gArith fMul) (eVar 2) (eC (.int 2147483587))) (eCall (Com.c__law_hash fu) (aCons (eBin gIx (eVar 0) (eC (.int 1))) (aCons (eBin gIx (eVar 0) (eC (.int 2))) aNil))))) sNil))) (sCons (sRet (eBin (gArith fMod) (eCall cInt (aCons (eVar 2) aNil)) (eVar 1))) sNil))))
noncomputable def u__law_random (fu : Nat) : CF := fnF 2 4 (b__law_random fu)
noncomputable def c__law_random (fu : Nat) : CF := sealed (u__law_random fu)
-- _law_number: 0 generator, 1 most
-- _law_range: 0 generator, 1 most, 2 low, 3 high, 4 way
-- _law_deed: 0 generator, 1 names, 2 most, 3 x, 4 y, 5 z, 6 number, 7 way, 8 menu, 9 other, 10 at, 11 name
-- _law_ends: 0 pairs, 1 low, 2 high
-- _law_passes: 0 names, 1 deed, 2 numbers, 3 here, 4 there
-- _law_written: 0 names, 1 deed, 2 numbers, 3 read, 4 name
-- _law_behind: 0 names, 1 deed, 2 numbers, 3 at, 4 item
-- _law_states: 0 row, 1 found, 2 low, 3 high, 4 longer, 5 numbers, 6 item
-- _law_hull: 0 names, 1 deed, 2 row, 3 found, 4 numbers, 5 at
-- _law_names: 0 generator, 1 many, 2 menu, 3 found, 4 at
-- a_whole: 0 value
noncomputable def b_a_whole (fu : Nat) : SF := (sCons (sRet (eAnd (eCall cIsi (aCons (eVar 0) (aCons (eC (.ty "int")) aNil))) (eNotT (eCall cIsi (aCons (eVar 0) (aCons (eC (.ty "bool")) aNil)))))) sNil)
noncomputable def u_a_whole (fu : Nat) : CF := fnF 1 1 (b_a_whole fu)
noncomputable def c_a_whole (fu : Nat) : CF := sealed (u_a_whole fu)
-- an_end: 0 value
noncomputable def b_an_end (fu : Nat) : SF := (sCons (sRet (eOr (eBin (gIsN false) (eVar 0) (eC .non)) (eCall (Com.c_a_whole fu) (aCons (eVar 0) aNil)))) sNil)
noncomputable def u_an_end (fu : Nat) : CF := fnF 1 1 (b_an_end fu)
noncomputable def c_an_end (fu : Nat) : CF := sealed (u_an_end fu)
-- a_range: 0 value, 1 low, 2 high
-- _a_part: 0 names, 1 form, 2 value
-- a_deed: 0 names, 1 value, 2 forms, 3 form, 4 part
-- need_deed: 0 names, 1 deed
-- a_number_below: 0 many, 1 value
-- a_step: 0 names, 1 many, 2 value, 3 source, 4 target, 5 deed
-- _a_short_count: 0 word, 1 sign
-- a_name: 0 value, 1 letters
-- ascending: 0 values, 1 one, 2 other
-- some_names: 0 value, 1 name
-- some_ranges: 0 names, 1 value, 2 span
-- a_program: 0 value, 1 names, 2 many, 3 start, 4 steps, 5 step
-- need_program: 0 program
-- a_row: 0 program, 1 value
-- need_row: 0 program, 1 row
-- _need_deed_and_row: 0 program, 1 deed, 2 row
-- _greater_low: 0 one, 1 other
-- _lesser_high: 0 one, 1 other
-- met: 0 span, 1 other, 2 low, 3 high
-- _cut_by_number: 0 names, 1 deed, 2 row, 3 at, 4 cut
-- end_plus: 0 end, 1 number
-- plus: 0 span, 1 number
-- _cut_by_pair: 0 names, 1 deed, 2 row, 3 first, 4 second, 5 above, 6 beneath, 7 cut
-- cut_row: 0 names, 1 deed, 2 row
-- can_hold: 0 program, 1 deed, 2 row
-- _greater_high: 0 one, 1 other
-- greatest_of: 0 span, 1 other
-- has_sum: 0 deed
-- _lesser_low: 0 one, 1 other
-- least_of: 0 span, 1 other
-- _end_turned: 0 end, 1 number
-- turned_about: 0 span, 1 number
-- sum_span: 0 names, 1 deed, 2 row, 3 word, 4 second
-- _span_made: 0 names, 1 deed, 2 row, 3 second, 4 third
-- row_behind: 0 names, 1 deed, 2 row, 3 behind
-- comes_of: 0 program, 1 deed, 2 row
-- _law_wider: 0 generator, 1 row, 2 found, 3 low, 4 high, 5 way
-- _need_rows: 0 program, 1 row, 2 other
-- joined: 0 span, 1 other
-- joined_rows: 0 row, 1 other, 2 span, 3 beside
-- row_joined: 0 program, 1 row, 2 other
-- met_rows: 0 row, 1 other, 2 both, 3 span, 4 beside
-- row_met: 0 program, 1 row, 2 other
-- lies_within: 0 span, 1 other, 2 low, 3 high
-- within_row: 0 row, 1 other, 2 span, 3 beside
-- row_within: 0 program, 1 row, 2 other
-- a_table: 0 program, 1 value, 2 row
-- need_table: 0 program, 1 table
-- _need_tables: 0 program, 1 table, 2 other
-- copied_row: 0 row
-- joined_at_place: 0 row, 1 other
-- table_joined: 0 program, 1 table, 2 other, 3 row, 4 beside
-- met_at_place: 0 row, 1 other
-- table_met: 0 program, 1 table, 2 other, 3 row, 4 beside
-- within_at_place: 0 row, 1 other
-- within_table: 0 table, 1 other, 2 row, 3 beside
-- table_within: 0 program, 1 table, 2 other
-- _law_cut: 0 pairs, 1 limit, 2 low, 3 high
-- _law_numbers: 0 program, 1 spans, 2 found, 3 source, 4 target, 5 deed, 6 low, 7 high, 8 part, 9 end
-- _law_greatest: 0 program
-- _law_join: 0 one, 1 two, 2 at
-- _law_closed: 0 program, 1 table, 2 ends, 3 row, 4 low, 5 high, 6 limit, 7 found, 8 turn, 9 before, 10 source, 11 target, 12 deed, 13 item, 14 end
-- _law_inside: 0 one, 1 two, 2 at
-- _law_led: 0 program, 1 table, 2 found, 3 source, 4 target, 5 deed
-- _law_told: 0 table, 1 pairs
-- _law_judged: 0 program, 1 table, 2 comes, 3 loose, 4 begins, 5 holding, 6 step, 7 at
-- _law_moved: 0 generator, 1 table, 2 place, 3 pairs, 4 at, 5 low, 6 high
-- _law_range__1: 0 generator, 1 most, 2 low, 3 high, 4 way
-- _law_deed__1: 0 generator, 1 names, 2 most, 3 x, 4 y, 5 z, 6 number, 7 way, 8 menu, 9 other, 10 at, 11 name
-- _law_program: 0 generator, 1 most, 2 wide, 3 long, 4 names, 5 many, 6 start, 7 steps, 8 reached, 9 at, 10 source, 11 target, 12 name
-- _law_table: 0 generator, 1 program, 2 found, 3 place, 4 row, 5 name
-- a_step_number: 0 program, 1 value
-- need_step: 0 program, 1 step
-- row_by_step: 0 program, 1 step, 2 table, 3 source, 4 _, 5 deed
-- comes_by: 0 program, 1 step, 2 table
-- steps_holding: 0 program, 1 table, 2 step
-- holding_at: 0 program, 1 table
-- holds_start_row: 0 program, 1 table
-- holds_start: 0 program, 1 table
-- steps_not_kept: 0 program, 1 table, 2 amiss, 3 step, 4 target
-- kept_table: 0 program, 1 table
-- is_kept: 0 program, 1 table
-- table_led: 0 program, 1 table, 2 led, 3 step, 4 target
-- led_by: 0 program, 1 table
-- not_kept: 0 program, 1 table
-- end_of: 0 program, 1 table, 2 bound, 3 place, 4 name, 5 side, 6 low, 7 high
-- a_name_of: 0 program, 1 value
-- a_place: 0 program, 1 value
-- a_side: 0 value
-- a_bound: 0 program, 1 value, 2 place, 3 name, 4 side
-- need_bound: 0 program, 1 bound
-- end_at: 0 program, 1 table, 2 bound
-- _law_number__1: 0 generator
-- _law_end: 0 generator, 1 way
-- _law_range__2: 0 generator, 1 low, 2 high
-- _law_deed__2: 0 generator, 1 names, 2 word, 3 one, 4 two, 5 three, 6 turn
-- _law_names__1: 0 generator
-- _law_program__1: 0 generator, 1 names, 2 many, 3 start, 4 steps, 5 turn, 6 name
-- is_test: 0 program, 1 step
-- written_name: 0 deed
-- written_by: 0 program, 1 step
-- _law_table__1: 0 generator, 1 program, 2 found, 3 place, 4 row, 5 name
-- need_place: 0 program, 1 place
-- steps_into: 0 program, 1 place, 2 number, 3 step
-- steps_out: 0 program, 1 place, 2 number, 3 step
-- _law_lies: 0 span, 1 number
-- _law_comes_to: 0 names, 1 deed, 2 numbers, 3 name, 4 number, 5 read, 6 part
-- _law_whole: 0 value
-- _law_judged__1: 0 names, 1 deed, 2 row, 3 name, 4 number, 5 value, 6 item, 7 span
-- need_name: 0 program, 1 name
-- need_number: 0 number
-- any_number: 0 span, 1 low, 2 high
-- holds: 0 span, 1 number, 2 low, 3 high
-- number_made: 0 names, 1 deed, 2 numbers, 3 given, 4 word, 5 second, 6 third
-- width_needed: 0 number
-- row_holds: 0 row, 1 numbers, 2 span, 3 number
-- some_numbers: 0 program, 1 value, 2 number
-- _law_deed__3: 0 generator, 1 names, 2 way, 3 x, 4 y, 5 c, 6 small
-- _law_program__2: 0 generator, 1 most, 2 places, 3 most_steps, 4 names, 5 steps, 6 many, 7 start, 8 name, 9 low, 10 x, 11 y, 12 turn, 13 sources, 14 step
-- _law_made: 0 names, 1 numbers, 2 deed, 3 number, 4 found, 5 other, 6 pair
noncomputable def b__law_made (fu : Nat) : SF := (sCons (sSet 4 (eCall (cListOf true) (aCons (eVar 1) aNil))) (sCons (sIf (truB (eBin (gIn2 false) (eBin gIx (eVar 2) (eC (.int 0))) (eCall (cLst false) (aCons (eC (.str "set")) (aCons (eC (.str "input")) aNil))))) (sCons (sSub (eVar 4) (eMethL mIndex (eVar 0) (aCons (eBin gIx (eVar 2) (eC (.int 1))) aNil)) (eIf (truB (eBin (gEqv false) (eBin gIx (eVar 2) (eC (.int 0))) (eC (.str "set")))) (eBin gIx (eVar 2) (eC (.int 2))) (eVar 3))) sNil) sNil) (sCons (sIf (truB (eBin (gIn2 false) (eBin gIx (eVar 2) (eC (.int 0))) (eCall (cLst false) (aCons (eC (.str "add")) (aCons (eC (.str "turn")) aNil))))) (sCons (sSet 5 (eBin gIx (eVar 1) (eMethL mIndex (eVar 0) (aCons (eBin gIx (eVar 2) (eC (.int 2))) aNil)))) (sCons (sSub (eVar 4) (eMethL mIndex (eVar 0) (aCons (eBin gIx (eVar 2) (eC (.int 1))) aNil)) (eIf (truB (eBin (gEqv false) (eBin gIx (eVar 2) (eC (.int 0))) (eC (.str "add")))) (eBin (gAdd false) (eVar 5) (eBin gIx (eVar 2) (eC (.int 3)))) (eBin gSub (eBin gIx (eVar 2) (eC (.int 3))) (eVar 5)))) sNil)) sNil) (sCons (sIf (truB (eBin (gIn2 false) (eBin gIx (eVar 2) (eC (.int 0))) (eCall (cLst false) (aCons (eC (.str "least")) (aCons (eC (.str "greatest")) aNil))))) (sCons (sSet 6 (eCall (cLst false) (aCons (eBin gIx (eVar 1) (eMethL mIndex (eVar 0) (aCons (eBin gIx (eVar 2) (eC (.int 2))) aNil))) (aCons (eBin gIx (eVar 1) (eMethL mIndex (eVar 0) (aCons (eBin gIx (eVar 2) (eC (.int 3))) aNil))) aNil)))) (sCons (sSub (eVar 4) (eMethL mIndex (eVar 0) (aCons (eBin gIx (eVar 2) (eC (.int 1))) aNil)) (eIf (truB (eBin (gEqv false) (eBin gIx (eVar 2) (eC (.int 0))) (eC (.str "least")))) (eCall (cPickL smallI) (aCons (eVar 6) aNil)) (eCall (cPickL bigI) (aCons (eVar 6) aNil)))) sNil)) sNil) (sCons (sRet (eVar 4)) sNil)))))
noncomputable def u__law_made (fu : Nat) : CF := fnF 4 7 (b__law_made fu)
noncomputable def c__law_made (fu : Nat) : CF := sealed (u__law_made fu)
-- _law_behind__1: 0 program, 1 state, 2 move, 3 source, 4 target, 5 deed
-- _law_same: 0 told, 1 due
-- a_state: 0 program, 1 value
-- need_state: 0 program, 1 state
-- _law_firsts: 0 program, 1 found, 2 low, 3 high, 4 longer, 5 row, 6 number
-- _law_table__2: 0 generator, 1 program, 2 states, 3 table, 4 place, 5 here, 6 row, 7 at, 8 low, 9 high, 10 mate, 11 numbers
-- table_holds: 0 table, 1 state, 2 place, 3 numbers
-- holds_state: 0 program, 1 table, 2 state
end Com
namespace Lv
open PySem PySem.Spec PyProof.Rows L2
mutual
def below (n : Nat) : D → Bool
  | .ty _ => true
  | .kl ds => belows n ds
  | .vl ds => belows n ds
  | .non => true
  | .bl _ => true
  | .int _ => true
  | .str _ => true
  | .tup ds => belows n ds
  | .ref k => decide (k < n)
  | .dv _ ds => belows n ds
  | .gl _ => true
  | .exc _ d => below n d
  | .lam _ _ _ _ _ ds => belows n ds
def belows (n : Nat) : List D → Bool
  | [] => true
  | d :: ds => below n d && belows n ds
end
mutual
theorem below_is {n : Nat} : ∀ d : D, below n d = true → Below n d
  | .ty s, _ => .ty s
  | .kl ds, h => .kl ds (belows_is ds h)
  | .vl ds, h => .vl ds (belows_is ds h)
  | .non, _ => .non
  | .bl b, _ => .bl b
  | .int i, _ => .int i
  | .str x, _ => .str x
  | .tup ds, h => .tup ds (belows_is ds h)
  | .ref k, h => .ref k (of_decide_eq_true h)
  | .dv ks ds, h => .dv ks ds (belows_is ds h)
  | .gl m, _ => .gl m
  | .exc m d, h => .exc m d (below_is d h)
  | .lam f c q σ ix ds, h => .lam f c q σ ix ds (belows_is ds h)
theorem belows_is {n : Nat} : ∀ ds : List D, belows n ds = true → ∀ d ∈ ds, Below n d
  | [], _ => fun d hd => by cases hd
  | e :: es, h => fun d hd => by
    have h' : below n e = true ∧ belows n es = true := by
      rw [← Bool.and_eq_true]; exact h
    have h1 := below_is (n := n) e h'.1
    have h2 := belows_is (n := n) es h'.2
    rcases List.mem_cons.mp hd with rfl | hd
    · exact h1
    · exact h2 d hd
end
mutual
theorem below_nr {n : Nat} : ∀ d : D, noRef d = true → below n d = true
  | .ty s, _ => rfl
  | .kl ds, h => belows_nr ds h
  | .vl ds, h => belows_nr ds h
  | .non, _ => rfl
  | .bl b, _ => rfl
  | .int i, _ => rfl
  | .str x, _ => rfl
  | .tup ds, h => belows_nr ds h
  | .ref k, h => by cases h
  | .dv ks ds, h => belows_nr ds h
  | .gl m, _ => rfl
  | .exc m d, h => below_nr d h
  | .lam f c q σ ix ds, h => belows_nr ds h
theorem belows_nr {n : Nat} : ∀ ds : List D, noRefs ds = true → belows n ds = true
  | [], _ => rfl
  | e :: es, h => by
    have h' : noRef e = true ∧ noRefs es = true := by
      rw [← Bool.and_eq_true]; exact h
    show (below n e && belows n es) = true
    rw [below_nr e h'.1, belows_nr es h'.2]
    rfl
end
def OldB (S0 S : Sto) : Prop := S0.length ≤ S.length ∧ ∀ i, i < S0.length → S[i]? = S0[i]? ∨ ∃ c, S[i]? = some c ∧ belows S0.length c.items = true
mutual
def ren (n0 : Nat) (π : List Nat) : D → Option D
  | .ref n => if n < n0 then some (.ref n) else (match π.idxOf? n with
    | some j => some (.ref (n0 + j))
    | none => none)
  | .tup ds => (match rens n0 π ds with
    | some es => some (.tup es)
    | none => none)
  | .vl ds => if noRefs ds then some (.vl ds) else none
  | .kl ds => if noRefs ds then some (.kl ds) else none
  | .dv ks ds => if noRefs ds then some (.dv ks ds) else none
  | .ty s => some (.ty s)
  | .non => some .non
  | .bl b => some (.bl b)
  | .int i => some (.int i)
  | .str x => some (.str x)
  | .gl m => some (.gl m)
  | .exc m d => if noRef d then some (.exc m d) else none
  | .lam f c q σ ix ds => if noRefs ds then some (.lam f c q σ ix ds) else none
def rens (n0 : Nat) (π : List Nat) : List D → Option (List D)
  | [] => some []
  | d :: ds => (match ren n0 π d with
    | some e => (match rens n0 π ds with
      | some es => some (e :: es)
      | none => none)
    | none => none)
end
instance {S0 S : Sto} : Decidable (OldB S0 S) := decidable_of_iff (oldL (fun c => belows S0.length c.items) S0 S = true) oldL_iff
section
variable {K : PySem.W.Frag} {ρ ρ' : List Addr} {H H' : Hp} {S S' S0 : Sto} {v : V} {z z' : D}
theorem idx_get {π : List Nat} {n j : Nat} (h : π.idxOf? n = some j) : π[j]? = some n := by
  unfold List.idxOf? at h
  obtain ⟨h1, h2, _⟩ := List.findIdx?_eq_some_iff_getElem.mp h
  rw [List.getElem?_eq_getElem h1]
  exact congrArg some (eq_of_beq h2)
mutual
theorem ren_rd {π : List Nat} {ρ2 : List Addr} {n0 : Nat} (h1 : ∀ (k : Nat) a, k < n0 → ρ'[k]? = some a → ρ2[k]? = some a) (h2 : ∀ (j n : Nat) a, π[j]? = some n → ρ'[n]? = some a → ρ2[n0 + j]? = some a) (hs : ∀ a, a ∈ ρ2 → a ∈ ρ') : ∀ (d : D) (v : V) (d' : D), RD K ρ' H v d → ren n0 π d = some d' → RD K ρ2 H v d'
  | .ref n, v, d', hv, h => by
    unfold ren at h
    cases hv with
    | ref hr hkL =>
      split at h
      · rename_i hlt
        cases h
        exact .ref (h1 _ _ hlt hr) hkL
      · split at h
        · rename_i j hj
          cases h
          exact .ref (h2 _ _ _ (idx_get hj) hr) hkL
        · cases h
  | .tup ds, v, d', hv, h => by
    unfold ren at h
    split at h
    · rename_i es he
      cases h
      cases hv with
      | tup hq hl ha =>
        have q := rens_rd h1 h2 hs ds _ es ⟨hl, ha⟩ he
        exact .tup hq q.len q.at_
    · cases h
  | .vl ds, v, d', hv, h => by
    unfold ren at h
    split at h
    · rename_i hn
      cases h
      exact hv.change (n := 0) (fun k a hk => by omega) hs (nr_below (.vl ds) hn)
    · cases h
  | .kl ds, v, d', hv, h => by
    unfold ren at h
    split at h
    · rename_i hn
      cases h
      exact hv.change (n := 0) (fun k a hk => by omega) hs (nr_below (.kl ds) hn)
    · cases h
  | .dv ks ds, v, d', hv, h => by
    unfold ren at h
    split at h
    · rename_i hn
      cases h
      exact hv.change (n := 0) (fun k a hk => by omega) hs (nr_below (.dv ks ds) hn)
    · cases h
  | .ty s, v, d', hv, h => by cases h; cases hv; exact .ty _
  | .non, v, d', hv, h => by cases h; cases hv; exact .non
  | .bl b, v, d', hv, h => by cases h; cases hv; exact .bl _
  | .int i, v, d', hv, h => by cases h; cases hv; exact .int _
  | .str x, v, d', hv, h => by cases h; cases hv; exact .str _
  | .gl m, v, d', hv, h => by cases h; cases hv with | gl h0 => exact .gl h0
  | .exc m d, v, d', hv, h => by
    unfold ren at h
    split at h
    · rename_i hn
      cases h
      exact hv.change (n := 0) (fun k a hk => by omega) hs (nr_below (.exc m d) hn)
    · cases h
  | .lam f c q σ ix ds, v, d', hv, h => by
    unfold ren at h
    split at h
    · rename_i hn
      cases h
      exact hv.change (n := 0) (fun k a hk => by omega) hs (nr_below (.lam f c q σ ix ds) hn)
    · cases h
theorem rens_rd {π : List Nat} {ρ2 : List Addr} {n0 : Nat} (h1 : ∀ (k : Nat) a, k < n0 → ρ'[k]? = some a → ρ2[k]? = some a) (h2 : ∀ (j n : Nat) a, π[j]? = some n → ρ'[n]? = some a → ρ2[n0 + j]? = some a) (hs : ∀ a, a ∈ ρ2 → a ∈ ρ') : ∀ (ds : List D) (vs : List V) (es : List D), RDs K ρ' H vs ds → rens n0 π ds = some es → RDs K ρ2 H vs es
  | [], vs, es, hv, h => by
    cases h
    exact ⟨hv.len, fun i x d _ hd => by simp at hd⟩
  | d :: ds, vs, es, hv, h => by
    unfold rens at h
    split at h
    · rename_i e0 he
      split at h
      · rename_i es0 hes
        cases h
        cases vs with
        | nil => have := hv.len; simp at this
        | cons x xs =>
          have q0 := ren_rd h1 h2 hs d x e0 (hv.at_ 0 x d rfl rfl) he
          have q1 := rens_rd h1 h2 hs ds xs es0 ⟨by have := hv.len; simpa using this, fun i y d hy hd => hv.at_ (i + 1) y d hy hd⟩ hes
          refine ⟨by simp [q1.len], fun i y d hy hd => ?_⟩
          cases i with
          | zero => cases hy; cases hd; exact q0
          | succ i => exact q1.at_ i y d hy hd
      · cases h
    · cases h
end
end
section
variable {P : Program} {w : World} {K : PySem.W.Frag} {mg : Str → Option Value} {base : Heap}
end
section
variable {X : Cx} {it : IFn} {t : Tg} {gc : TF} {fe : EF}
end
end Lv
namespace Lv
open PySem PySem.Spec PyProof.Rows L2
section
variable {prog : Program} {w : World} {A : Around} {E : Value → Shared → Prop} {s : Shared}
abbrev ZipB (h : Heap) (z TI TO : Addr) (f0 : Value) (b : Bool) : Prop := h.get? z = some { cls := .type "zip", dict := none, data := .fields #[f0, .bool b, .bool false, .ref TI, .ref TO], slots := #[] }
end
end Lv
namespace Lv
open PySem PySem.Spec PyProof.Rows L2
abbrev LstAt (h : Heap) (L : Addr) (Ts : List Addr) (c : Nat) : Prop := h.get? L = some { cls := .type "list", dict := none, data := .seq (Ts.map Value.ref).toArray c, slots := #[] }
structure ZL (h0 h : Heap) (z TI TO i1 i2 l1 l2 L : Addr) (xs ys : Array Value) (B i : Nat) (Ts : List Addr) (c : Nat) : Prop where
  zp : (i = 0 ∧ IsZip h z TI TO .none ∧ ∃ a b, IsPair h TO a b) ∨ ∃ (T : Addr) (b : Bool), ZipB h z TI TO (rawInt T) b ∧ ∃ o, h.get? T = some o
  ti : IsPair h TI (.ref i1) (.ref i2)
  a1 : h.IsListIter i1 l1 i
  a2 : h.IsListIter i2 l2 i
  s1 : h.IsList l1 xs
  s2 : h.IsList l2 ys
  ls : LstAt h L Ts c
  ln : Ts.length = i
  tp : ∀ (j : Nat) T, Ts[j]? = some T → ∃ x y, xs[j]? = some x ∧ ys[j]? = some y ∧ IsPair h T x y
  nw : ∀ T ∈ Ts, B ≤ T
  nd : Ts.Nodup
  bs : B ≤ h.objs.size
  lt : z < B ∧ TI < B ∧ TO < B ∧ i1 < B ∧ i2 < B ∧ l1 < B ∧ l2 < B ∧ L < B
  kp : ∀ e o, e ≠ z → e ≠ TO → e ≠ i1 → e ≠ i2 → e ≠ L → h0.get? e = some o → h.get? e = some o
section
variable {prog : Program} {w : World} {A : Around} {R : Result → Shared → Prop} {z TI TO i1 i2 l1 l2 L : Addr} {xs ys : Array Value}
theorem pair_lt {h : Heap} {T : Addr} {x y : Value} (e : IsPair h T x y) : T < h.objs.size := Heap.lt_size e
theorem ZL.next {h0 h h' h'' : Heap} {B i : Nat} {Ts : List Addr} {c c' : Nat} {x y : Value} {b : Bool} (Z : ZL h0 h z TI TO i1 i2 l1 l2 L xs ys B i Ts c) (D : ZipApart z TI TO i1 i2 l1 l2) (ne : L ≠ z ∧ L ≠ TI ∧ L ≠ TO ∧ L ≠ i1 ∧ L ≠ i2 ∧ L ≠ l1 ∧ L ≠ l2)
    {T : Addr} (hz : ZipB h' z TI TO (rawInt T) b) (hT : ∃ o, h'.get? T = some o) (b1 : h'.IsListIter i1 l1 (i + 1)) (b2 : h'.IsListIter i2 l2 (i + 1)) (pr : IsPair h' h.objs.size x y) (sz : h'.objs.size = h.objs.size + 1)
    (k : ∀ e o, e ≠ z → e ≠ TO → e ≠ i1 → e ≠ i2 → h.get? e = some o → h'.get? e = some o) (hx : xs[i]? = some x) (hy : ys[i]? = some y) (szz : h''.objs.size = h'.objs.size)
    (k2 : ∀ e o, e ≠ L → h'.get? e = some o → h''.get? e = some o) (ls : LstAt h'' L (Ts ++ [h.objs.size]) c') : ZL h0 h'' z TI TO i1 i2 l1 l2 L xs ys B (i + 1) (Ts ++ [h.objs.size]) c' := by
  obtain ⟨n1, n2, n3, n4, n5, n6, n7⟩ := ne
  obtain ⟨m1, m2, m3, m4, m5, m6, m7, m8⟩ := Z.lt
  have bs := Z.bs
  have far : ∀ T, B ≤ T → T ≠ z ∧ T ≠ TO ∧ T ≠ i1 ∧ T ≠ i2 ∧ T ≠ L := fun T h => ⟨Nat.ne_of_gt (Nat.lt_of_lt_of_le m1 h), Nat.ne_of_gt (Nat.lt_of_lt_of_le m3 h), Nat.ne_of_gt (Nat.lt_of_lt_of_le m4 h), Nat.ne_of_gt (Nat.lt_of_lt_of_le m5 h), Nat.ne_of_gt (Nat.lt_of_lt_of_le m8 h)⟩
  refine ⟨.inr ⟨T, b, k2 _ _ n1.symm hz, ?_⟩, k2 _ _ n2.symm (k _ _ D.TIz D.TITO D.TIi1 D.TIi2 Z.ti), b1.at fun o e => k2 _ _ n4.symm e, b2.at fun o e => k2 _ _ n5.symm e, Z.s1.at fun o e => k2 _ _ n6.symm (k _ _ D.l1z D.l1TO D.l1i1 D.l1i2 e), Z.s2.at fun o e => k2 _ _ n7.symm (k _ _ D.l2z D.l2TO D.l2i1 D.l2i2 e), ls, by rw [List.length_append, Z.ln]; rfl, fun j T' e => ?_, fun T' e => ?_, ?_, by rw [szz, sz]; omega, Z.lt, fun e o e1 e2 e3 e4 e5 q => k2 _ _ e5 (k _ _ e1 e2 e3 e4 (Z.kp e o e1 e2 e3 e4 e5 q))⟩
  · obtain ⟨o, ho⟩ := hT
    by_cases q : T = L
    · exact ⟨_, by rw [q]; exact ls⟩
    · exact ⟨o, k2 _ _ q ho⟩
  · by_cases hj : j < Ts.length
    · rw [List.getElem?_append_left hj] at e
      obtain ⟨x', y', q1, q2, q3⟩ := Z.tp j T' e
      obtain ⟨f1, f2, f3, f4, f5⟩ := far T' (Z.nw T' (List.mem_of_getElem? e))
      exact ⟨x', y', q1, q2, k2 _ _ f5 (k _ _ f1 f2 f3 f4 q3)⟩
    · rw [List.getElem?_append_right (by omega)] at e
      have hj2 : j - Ts.length = 0 := by
        have := (List.getElem?_eq_some_iff.mp e).1
        rw [List.length_singleton] at this
        omega
      rw [hj2] at e
      cases e
      have hji : j = i := by have := Z.ln; omega
      subst hji
      exact ⟨x, y, hx, hy, k2 _ _ (far _ bs).2.2.2.2 pr⟩
  · rcases List.mem_append.mp e with e | e
    · exact Z.nw T' e
    · rw [List.mem_singleton.mp e]; exact bs
  · refine List.nodup_append.mpr ⟨Z.nd, by simp, fun a ha b' hb e => ?_⟩
    rw [List.mem_singleton.mp hb] at e
    obtain ⟨j, hj⟩ := List.getElem?_of_mem ha
    obtain ⟨x', y', _, _, q3⟩ := Z.tp j a hj
    have q4 := pair_lt q3
    rw [e] at q4
    exact Nat.lt_irrefl _ q4
end
end Lv
namespace Lv
open PySem PySem.Spec PyProof.Rows L2
section
variable {prog : Program} {w : World} {A : Around} {E : Value → Shared → Prop} {s : Shared} {R : Result → Shared → Prop} {z TI TO i1 i2 l1 l2 L : Addr} {xs ys : Array Value}
end
end Lv
namespace Lv
open PySem PySem.Spec PyProof.Rows L2
section
variable {X : Cx} {pins : List (Addr × Obj)} {σ : L2.St} {H : Hp} {s : Shared} {a b : Expr} {ta : TA}
end
end Lv
namespace Lv
open PySem PySem.Spec PyProof.Rows L2
def eLzip (rm : Bool) (f : AF) : EF := fun env S => match f env S with
  | some ([x, y], S1) => (match listOf S1 x, listOf S1 y with
    | some ds, some es => some (mkV rm (zipD ds es) S1)
    | _, _ => none)
  | _ => none
section
variable {X : Cx} {a b : Expr} {fs : AF}
@[simp] theorem r_eLzip {rm : Bool} {env : Lv.Env} {S : Sto} : eLzip rm fs env S = (match fs env S with
  | some ([x, y], S1) => (match listOf S1 x, listOf S1 y with
    | some ds, some es => some (mkV rm (zipD ds es) S1)
    | _, _ => none)
  | _ => none) := rfl
end
end Lv
namespace Lv
open PySem PySem.Spec PyProof.Rows L2
def eDn : EF := fun _ S => some (.dv [] [], S)
section
variable {X : Cx}
@[simp] theorem r_eDn {env : Lv.Env} {S : Sto} : eDn env S = some (.dv [] [], S) := rfl
end
end Lv
namespace Lv
open PySem PySem.Spec PyProof.Rows L2
abbrev FunN (K : PySem.W.Frag) (x qual : Str) (st : Stmt) (f : Addr) (fd : FuncData) : Prop := FunD K x qual (defArgs st) (defBody st) (defScope st) [V.non] [] f fd
section
variable {P : Program} {w : World} {K : PySem.W.Frag} {mg : Str → Option Value} {base : Heap}
theorem funN_mk {x qual : Str} {st : Stmt} {f T : Addr} {o : Obj} {m : Nat} {oc : Value} {od an : Option Addr} {osl : Array (Option Value)} {kV doc pm cdv ct : Value} (l : K.lookup f = some ⟨oc, od, .func (PySem.W.fnOf x qual (defArgs st) (defBody st) (defScope st) (.ref T) kV doc pm an cdv ct), osl⟩)
    (c : PySem.W.codeIn K cdv qual = true) (k : PySem.W.keepIn K (.ref f) = true) (lT : K.lookup T = some o) (oT : o.data = .seq #[Value.none] m) : FunN K x qual st f (PySem.W.fnOf x qual (defArgs st) (defBody st) (defScope st) (.ref T) kV doc pm an cdv ct) :=
  ⟨⟨oc, od, .ref T, kV, doc, pm, an, cdv, ct, osl, rfl, l, c, .inr ⟨by simp, T, o, [Value.none], m, rfl, lT, oT, .cons rfl .nil⟩, .inl rfl⟩, k⟩
theorem FunN.all {x qual : Str} {st : Stmt} {f : Addr} {fd : FuncData} {ps : List Str} (F : FunN K x qual st f fd)
    (h : ∀ (T : Addr) (kV doc pm : Value) (an : Option Addr) (cdv ct : Value) (us its : List Value), us.length = ps.length → its.length = 1 →
      ∃ k, bindArgs (PySem.W.fnOf x qual (defArgs st) (defBody st) (defScope st) (.ref T) kV doc pm an cdv ct) ⟨us, []⟩ = seqItems? (.ref T) >>= k ∧ k (some its.toArray) = pure (ps.zip us)) : Binds K fd ps [] := by
  obtain ⟨ds, hv, hb⟩ := FunD.binds1 (ps := ps) F ps.length 1 (by simp) (by simp) (fun T kV doc pm an cdv ct us its h1 h2 => by
    obtain ⟨k, q1, q2⟩ := h T kV doc pm an cdv ct us its h1 h2
    refine ⟨k, q1, ?_⟩
    rw [q2, List.drop_of_length_le (by rw [h2]; exact Nat.le_refl _), List.append_nil])
  cases hv
  exact hb
theorem FunN.last {x qual : Str} {st : Stmt} {f : Addr} {fd : FuncData} {ps : List Str} (F : FunN K x qual st f fd) (n : Nat) (hn : n + 1 = ps.length)
    (h : ∀ (T : Addr) (kV doc pm : Value) (an : Option Addr) (cdv ct : Value) (us its : List Value), us.length = n → its.length = 1 →
      ∃ k, bindArgs (PySem.W.fnOf x qual (defArgs st) (defBody st) (defScope st) (.ref T) kV doc pm an cdv ct) ⟨us, []⟩ = seqItems? (.ref T) >>= k ∧ k (some its.toArray) = pure (ps.zip (us ++ its))) : Binds K fd ps [Value.none] := by
  obtain ⟨ds, hv, hb⟩ := FunD.binds1 (ps := ps) F n 0 (by simp) (by simpa using hn) (fun T kV doc pm an cdv ct us its h1 h2 => by
    obtain ⟨k, q1, q2⟩ := h T kV doc pm an cdv ct us its h1 h2
    exact ⟨k, q1, by rw [q2, List.drop_zero]⟩)
  cases hv with
  | cons r rr =>
    cases rr
    cases r
    exact hb
end
def eCallD (g : CF) (fa : AF) : EF := fun env S => match fa env S with
  | none => none
  | some (ds, S1) => g (ds ++ [.non]) S1
section
variable {X : Cx} {g : CF} {n k : Nat} {f : Addr} {fd : FuncData} {ps : List Str} {x : Str} {p pos : Pos} {e : Expr} {es : List Expr} {fs : AF}
@[simp] theorem r_eCallD {env : Lv.Env} {S : Sto} : eCallD g fs env S = (match fs env S with
  | none => none
  | some (ds, S1) => g (ds ++ [.non]) S1) := rfl
end
end Lv
namespace Lv
open PySem PySem.Spec PyProof.Rows L2
def aStar (f : EF) (g : AF) : AF := fun env S => match f env S with
  | none => none
  | some (d, S1) => match itemsOf S1 d with
    | none => none
    | some ds => match g env S1 with
      | none => none
      | some (es, S2) => some (ds ++ es, S2)
section
variable {X : Cx} {e : Expr} {es : List Expr} {fe : EF} {fs : AF} {p : Pos}
@[simp] theorem r_aStar {env : Lv.Env} {S : Sto} : aStar fe fs env S = (match fe env S with
  | none => none
  | some (d, S1) => match itemsOf S1 d with
    | none => none
    | some ds => match fs env S1 with
      | none => none
      | some (es, S2) => some (ds ++ es, S2)) := rfl
end
end Lv
namespace Co2
open PySem PySem.Spec PyProof.Rows L2 Lv
-- _law_bent: 0 generator, 1 told, 2 number, 3 bent, 4 odd, 5 turn, 6 at, 7 by, 8 item
-- _numbers_passing: 0 names, 1 deed, 2 row, 3 cut, 4 at, 5 number, 6 span
-- _narrowed: 0 row, 1 at, 2 span, 3 both
-- _ahead_of_two: 0 row, 1 one, 2 other, 3 number, 4 beside, 5 ahead
-- _ahead_of_written: 0 names, 1 deed, 2 row, 3 number, 4 word, 5 second, 6 from_second, 7 third, 8 beside, 9 ahead
-- _row_ahead: 0 names, 1 deed, 2 row, 3 name, 4 number
-- numbers_ahead: 0 names, 1 deed, 2 row, 3 name, 4 number, 5 ahead
-- cause_of: 0 program, 1 deed, 2 row, 3 name, 4 number
-- number_wrapped: 0 width, 1 number, 2 half
-- passes: 0 names, 1 deed, 2 numbers, 3 width, 4 word, 5 first, 6 second
-- leads_to: 0 names, 1 deed, 2 row, 3 name, 4 number, 5 numbers
-- is_cause: 0 program, 1 deed, 2 row, 3 name, 4 number, 5 value
-- _law_passes__1: 0 names, 1 numbers, 2 deed, 3 first, 4 other
-- _law_moves: 0 program, 1 state, 2 found, 3 step, 4 source, 5 target, 6 deed, 7 told, 8 number
-- _law_tried: 0 program, 1 due, 2 found, 3 step, 4 number
-- step_goes: 0 program, 1 state, 2 step, 3 width, 4 source, 5 _, 6 deed
-- move_goes: 0 program, 1 state, 2 value, 3 width, 4 step, 5 number, 6 deed
-- can_go: 0 program, 1 state, 2 value
-- numbers_behind: 0 names, 1 deed, 2 numbers, 3 given, 4 width, 5 behind
-- state_after: 0 program, 1 state, 2 move, 3 width, 4 step, 5 number, 6 _, 7 target, 8 deed
-- state_behind: 0 program, 1 state, 2 move
-- _steps_going: 0 program, 1 state, 2 step
-- steps_from: 0 program, 1 state
-- _law_state_right: 0 generator, 1 program, 2 state, 3 due, 4 kept, 5 told, 6 steps, 7 value, 8 given, 9 move, 10 there, 11 once, 12 name, 13 step, 14 number
-- _law_holds: 0 table, 1 state, 2 low, 3 high, 4 number
-- _law_is_move: 0 program, 1 state, 2 value, 3 move
-- _law_played: 0 program, 1 value, 2 found, 3 move, 4 numbers
-- _law_run: 0 generator, 1 program, 2 most, 3 rows, 4 numbers, 5 moves, 6 state, 7 turn, 8 can
-- states_as_far: 0 program, 1 numbers, 2 moves, 3 width, 4 states, 5 move, 6 number
-- run_states: 0 program, 1 value, 2 width, 3 numbers, 4 moves, 5 states
-- needed_states: 0 program, 1 run, 2 states
-- first_left: 0 program, 1 table, 2 run, 3 number, 4 state
-- is_run: 0 program, 1 value
-- states_of: 0 program, 1 run
end Co2
namespace Lv
open PySem PySem.Spec PyProof.Rows L2
section
variable {X : Cx} {s1 s2 : Stmt} {rest : List Stmt} {f1 f2 g : SF}
end
end Lv
namespace Lv
open PySem PySem.Spec PyProof.Rows L2
section
variable {X : Cx} {e : Expr} {fe : EF}
end
end Lv
namespace Lv
open PySem PySem.Spec PyProof.Rows L2
section
variable {X : Cx} {x : Str} {z : Str} {i : Int} {pos : Pos}
end
end Lv
namespace Lv
open PySem PySem.Spec PyProof.Rows L2
section
variable {K : PySem.W.Frag}
end
end Lv
namespace Lv
open PySem PySem.Spec PyProof.Rows L2
section
variable {X : Cx} {it it1 : IFn} {t t1 : Tg} {gc gc1 : TF} {fe : EF}
end
end Lv
namespace Lv
open PySem PySem.Spec PyProof.Rows L2
section
variable {K : PySem.W.Frag}
end
end Lv
namespace Lv
open PySem PySem.Spec PyProof.Rows L2
section
variable {X : Cx} {x : Str} {kvs : List (Str × Str)} {e : Expr} {fe : EF} {pos px : Pos}
end
end Lv
namespace Lv
open PySem PySem.Spec PyProof.Rows L2
inductive Res where
  | ok (d : D) | ex (n : Str) (d : D)
abbrev CFX := List D → Sto → Option (Res × Sto)
abbrev EFX := Env → Sto → Option (Res × Sto)
structure Fly (K : PySem.W.Frag) (ρ : List Addr) (H : Hp) (C d : Addr) (n : Str) (v : D) : Prop where
  cls : GA K n C
  ex : ∃ (fs : List (Str × V)) (x : V), H d = some (.xd fs) ∧ d ∉ ρ ∧ fs.lookup ("value" : Str) = some x ∧ RD K ρ H x v
theorem Fly.ext {K : PySem.W.Frag} {ρ ρ' : List Addr} {H H' : Hp} {S : Sto} {C d : Addr} {n : Str} {v : D} (r : Rel K ρ H S) (e : Ext ρ H ρ' H') (h : Fly K ρ H C d n v) : Fly K ρ' H' C d n v := by
  obtain ⟨fs, x, h1, h2, h3, h4⟩ := h.ex
  exact ⟨h.cls, fs, x, e.keep _ _ h1 h2, (fun hm => by rw [e.new _ hm h2] at h1; cases h1), h3, h4.ext r e⟩
def ResOk (K : PySem.W.Frag) (ρ : List Addr) (H : Hp) (Q : VK) (E : XK) : Res → Prop
  | .ok d => ∀ v, RD K ρ H v d → Q v H
  | .ex n v => ∀ C d, Fly K ρ H C d n v → E (.ref C) (some d) H
def tEX (K : PySem.W.Frag) (W : WX) (f : EFX) : TE := fun σ H Q => ∃ ρ S env o S', Rel K ρ H S ∧ EnvR K ρ H σ env ∧ f env S = some (o, S') ∧
  ∀ ρ' H', Ext ρ H ρ' H' → Rel K ρ' H' S' → ResOk K ρ' H' Q (fun c d H => W c d σ H) o
def spX (K : PySem.W.Frag) (n : Nat) (g : CFX) : Sp := fun vs H Q E => vs.length = n ∧ ∃ ρ S ds o S', Rel K ρ H S ∧ RDs K ρ H vs ds ∧ g ds S = some (o, S') ∧ ∀ ρ' H', Ext ρ H ρ' H' → Rel K ρ' H' S' → ResOk K ρ' H' Q E o
inductive OutX where
  | nx (env : Env) | rt (d : D) | ex (env : Env) (n : Str) (d : D)
abbrev SFX := Env → Sto → Option (OutX × Sto)
section
variable {X : Cx} {W : WX} {st : Stmt} {rest : List Stmt} {f g : SFX} {e c : Expr} {fe : EFX} {gt : TF} {pos : Pos}
end
def spI (K : PySem.W.Frag) : Sp := fun vs H Q E => ∃ (a C : Addr) (x : V), vs = [.ref a, x] ∧ OexC K C ∧ PySem.W.findIn K (.ref C) "value" = some none ∧ H a = some (exo a C none) ∧
  ∀ dx, H dx = none → dx ≠ a → Q .non (upd (upd H dx (exd dx [("value", x)])) a (exo a C (some dx)))
structure ErrC (P : Program) (w : World) (K : PySem.W.Frag) (mg : Str → Option Value) (base : Heap) (n : Str) : Prop where
  ex : ∃ (C fI : Addr) (fd : FuncData), GA K n C ∧ mg n = some (.ref C) ∧ OexC K C ∧ PySem.W.findIn K (.ref C) "value" = some none ∧ PySem.W.findIn K (.ref C) "__init__" = some (some (.ref fI)) ∧ PySem.W.typeIn K (.ref fI) = some (.type "function") ∧
    Binds K fd ["self", "value"] [] ∧ FnOk P w K mg base CX0 1 fI fd ["self", "value"] (spI K)
theorem ext_raise {H : Hp} {a d : Addr} {C : Addr} {fs : List (Str × V)} (ha : H a = none) (hd : H d = none) (hn : d ≠ a) (o : HO) (o2 : HO) :
    upd (del (upd (upd (upd H a o) d o2) a (exo a C (some d))) a) d (.xd fs) = upd H d (.xd fs) := by
  funext b
  by_cases h1 : b = d
  · rw [h1, upd_same, upd_same]
  · rw [upd_ne h1, upd_ne h1]
    by_cases h2 : b = a
    · rw [h2, del_same, ha]
    · rw [del_ne h2, upd_ne h2, upd_ne h1, upd_ne h2]
section
variable {X : Cx} {W : WX} {e : Expr} {es : List Expr} {fs : AF} {n : Str} {p pos rpos : Pos} {k : Nat}
end
structure FnX (P : Program) (w : World) (K : PySem.W.Frag) (mg : Str → Option Value) (base : Heap) (k : Nat) (f : Addr) (fd : FuncData) (ps : List Str) (sp : Sp) : Prop where
  len : ∀ vs H Q E, sp vs H Q E → vs.length = ps.length
  run : ∀ (A : Around) (outer : List PySem.Env) (s : Shared) (H : Hp) (args : Args) (us : List Value) (vs : List V) (Q : VK) (E : XK), Room k A → A.guards = some [] → Env0 P w K mg base A outer s H → BindsTo s fd args (ps.zip us) → Vals vs us → sp vs H Q E →
    codeAny (model P w) A (.call (.ref f) args) (CR (L2.CX P w) outer P w H s Q E) s
section
variable {P : Program} {w : World} {K : PySem.W.Frag} {mg : Str → Option Value} {base : Heap}
noncomputable def sealedX (g : CFX) : CFX := fun ds S => match g ds S with
  | some (.ok z, S') => (match shut S z S' with
    | some (z', S2) => some (.ok z', S2)
    | none => none)
  | some (.ex n z, S') => (match shut S z S' with
    | some (z', S2) => some (.ex n z', S2)
    | none => none)
  | none => none
theorem FnX.sealed {f : Addr} {fd : FuncData} {ps : List Str} {k n : Nat} {g : CFX} (F : FnX P w K mg base k f fd ps (spX K n g)) : FnX P w K mg base k f fd ps (spX K n (sealedX g)) := by
  have i : ∀ vs H Q E, spX K n (sealedX g) vs H Q E → spX K n g vs H Q E := fun vs H Q E q => by
    obtain ⟨hl, ρ, S0, ds, z, S', r, hd, hf, q⟩ := q
    unfold sealedX at hf
    split at hf
    · rename_i z1 S1 h1
      split at hf
      · rename_i z2 S2 h2
        cases hf
        refine ⟨hl, ρ, S0, ds, _, S1, r, hd, h1, fun ρ' H' e r' v hv => ?_⟩
        obtain ⟨e2, r2, v2⟩ := seal_ok r e r' hv h2
        exact q ρ H' e2 r2 v v2
      · cases hf
    · rename_i m z1 S1 h1
      split at hf
      · rename_i z2 S2 h2
        cases hf
        refine ⟨hl, ρ, S0, ds, _, S1, r, hd, h1, fun ρ' H' e r' C d hv => ?_⟩
        obtain ⟨fs, x, k1, k2, k3, k4⟩ := hv.ex
        obtain ⟨e2, r2, v2⟩ := seal_ok r e r' k4 h2
        obtain ⟨more, rfl⟩ := e.pre
        exact q ρ H' e2 r2 C d ⟨hv.cls, fs, x, k1, fun hm => k2 (List.mem_append_left _ hm), k3, v2⟩
      · cases hf
    · cases hf
  exact ⟨fun vs H Q E q => F.len vs H Q E (i _ _ _ _ q), fun A outer s H args us vs Q E a b c d e q => F.run A outer s H args us vs Q E a b c d e (i _ _ _ _ q)⟩
theorem FnX.mono {f : Addr} {fd : FuncData} {ps : List Str} {k j : Nat} {sp : Sp} (F : FnX P w K mg base j f fd ps sp) (h : j ≤ k) : FnX P w K mg base k f fd ps sp := ⟨F.len, fun A outer s H args us vs Q E a => F.run A outer s H args us vs Q E (a.mono h)⟩
end
def ArX (g : CFX) (n : Nat) : Prop := ∀ ds S z, g ds S = some z → ds.length = n
section
variable {X : Cx} {W : WX} {k n : Nat} {f : Addr} {fd : FuncData} {ps ks : List Str} {g : CFX} {x : Str} {p pos : Pos} {e : Expr} {es : List Expr} {kws : List Keyword} {fs fk : AF}
end
end Lv
namespace Lv
open PySem PySem.Spec PyProof.Rows L2
section
variable {X : Cx} {pins : List (Addr × Obj)} {σ : L2.St} {H : Hp} {s : Shared}
end
section
variable {X : Cx} {x n y : Str} {c : Value} {i j : Nat} {body : List Stmt} {np apos py pn' pos pos' : Pos} {tb : WX → TS}
end
end Lv
namespace Lv
open PySem PySem.Spec PyProof.Rows L2
def Caught (K : PySem.W.Frag) (c : Value) (T : List Str) : Prop := ∀ n ∈ T, ∃ C, GA K n C ∧ PySem.W.exmOne K (.ref C) c = some true
theorem GA.one {K : PySem.W.Frag} {n : Str} {a b : Addr} (h : GA K n a) (h' : GA K n b) : a = b := by
  have z := h.symm.trans h'
  cases z
  rfl
theorem Caught.nil {K : PySem.W.Frag} {c : Value} : Caught K c [] := fun n h => by cases h
theorem Caught.cons {K : PySem.W.Frag} {c : Value} {T : List Str} {n : Str} {C : Addr} (h1 : GA K n C) (h2 : PySem.W.exmOne K (.ref C) c = some true) (h : Caught K c T) : Caught K c (n :: T) := fun m hm => by
  rcases List.mem_cons.mp hm with rfl | hm
  · exact ⟨C, h1, h2⟩
  · exact h m hm
section
variable {X : Cx} {x n y : Str} {c : Value} {i j : Nat} {body : List Stmt} {np apos py pn' pos pos' : Pos} {b : SFX} {T : List Str}
end
structure XcC (K : PySem.W.Frag) (C : Addr) : Prop where
  cl : (PySem.W.clsIn K C).isSome = true
  ga : PySem.W.findIn K (.ref C) "__getattribute__" = some (some (.builtin "BaseException.__getattribute__"))
  gg : PySem.W.findIn K (.ref C) "__getattr__" = some none
  ex : PySem.W.subIn K (.ref C) (.type "BaseException") = some true
  hd : PySem.W.hasDictIn K C = true
  ca : PySem.W.findIn K (.ref C) "__class__" = some (some (.builtin "object.__class__"))
  mr : PySem.W.mroIn K C (.type "object") = some true
  va : PySem.W.findIn K (.ref C) "value" = some none
structure XcG (K : PySem.W.Frag) : Prop where
  hn : PySem.W.specialIn K (.builtin "object.__class__") "__get__" = some (some (.builtin "getset_descriptor.__get__"))
  ht : PySem.W.takesIn K (.builtin "object.__class__") = some true
theorem exk_at {P : Program} {w : World} {H : Hp} {h : Heap} {a C d : Addr} (hok : HOk P w H h) (he : H a = some (ExK a C d)) : ∃ (oe : Obj) (vs : Array Value), h.get? a = some oe ∧ oe.cls = .ref C ∧ oe.dict = some d ∧ oe.data = .fields vs := by
  have x : ObjOk P w H h a (.ext fun h => ∃ (oe : Obj) (vs : Array Value), h.get? a = some oe ∧ oe.cls = .ref C ∧ oe.dict = some d ∧ oe.data = .fields vs) := hok a _ he
  exact x.1
def Errs (K : PySem.W.Frag) (T : List Str) : Prop := ∀ n ∈ T, ∃ C, GA K n C ∧ XcC K C
theorem Errs.nil {K : PySem.W.Frag} : Errs K [] := fun n h => by cases h
theorem Errs.cons {K : PySem.W.Frag} {T : List Str} {n : Str} {C : Addr} (h1 : GA K n C) (h2 : XcC K C) (h : Errs K T) : Errs K (n :: T) := fun m hm => by
  rcases List.mem_cons.mp hm with rfl | hm
  · exact ⟨C, h1, h2⟩
  · exact h m hm
def notF : D → Bool
  | .ty _ => false
  | _ => true
def eValT (T : List Str) (f : EF) : EF := fun env S => match f env S with
  | some (.exc n d, S1) => if T.contains n && notF d then some (d, S1) else none
  | _ => none
section
variable {X : Cx} {e : Expr} {fe : EF} {pos : Pos} {T : List Str}
theorem l_valT (hT : Errs X.K T) (he : PE X e (tE X.K fe)) (hb : attributeBase e "value" X.env (eval e X.env) = eval e X.env := by rfl) : PE X (.Attribute e "value" pos) (tE X.K (eValT T fe)) := by
  refine ⟨fun pins s σ H Q I h => ?_⟩
  obtain ⟨ρ, S, env, o, S', r, en, hf, q⟩ := h
  unfold eValT at hf
  split at hf
  · rename_i n d S1 h1
    split at hf
    · rename_i hc
      cases hf
      rw [Bool.and_eq_true, List.contains_iff_mem] at hc
      obtain ⟨C0, g0, xc⟩ := hT n hc.1
      have hrun : tE X.K fe σ H fun v H1 => ∃ a C dd fs x, v = .ref a ∧ XcC X.K C ∧ H1 a = some (ExK a C dd) ∧ H1 dd = some (.xd fs) ∧ fs.lookup ("value" : Str) = some x ∧ Q x H1 := run_e r en h1 fun ρ1 H1 v e1 r1 hv en1 => by
        cases hv with
        | exc k1 k2 k3 k4 k5 k6 k7 =>
          obtain rfl := g0.one k1
          exact ⟨_, _, _, _, _, rfl, xc, k2, k3, k6, q ρ1 H1 _ e1 r1 k7⟩
        | excN k1 k2 k3 => cases hc.2
      refine attr_of hb (thn (he.run pins s σ H _ I hrun) fun u s1 hh => ?_)
      obtain ⟨v, H1, I1, rv, a, C, dd, fs, x, ev, xc1, k1, k2, k3, q1⟩ := hh
      subst ev
      obtain rfl : u = Value.ref a := rv
      obtain ⟨oe, vs, e1, e2, e3, e4⟩ := exk_at I1.hok k1
      have hx : ObjOk X.prog X.w H1 s1.heap dd (.xd fs) := I1.hok dd _ k2
      obtain ⟨mA, hns, hr⟩ := hx
      obtain ⟨od, ho, hl⟩ := lookIn_ns hns
      obtain ⟨w, hw, rw'⟩ := RelO.some_of (v := x) (o := mA "value") (by rw [← k3]; exact hr "value")
      have J : PySem.W.InstAt s1.heap a oe C (some od) := ⟨e1, e2, by unfold PySem.W.notCls; rw [e4], by rw [e3]; exact ho⟩
      exact HandSPX.exc_get I1.kIn J xc1.ga xc1.gg xc1.ex (PySem.W.findObj_own xc1.hd xc1.va rfl (by rw [hl, hw])) (handed_of rw') ⟨x, H1, I1.tok _, rw', q1⟩
    · cases hf
  · cases hf
theorem l_gl {x : Str} {a : Addr} (hg : Gl X x) (hm : X.mg x = some (.ref a)) (gA : GA X.K x a) (hd : (x == ("__debug__" : Str)) = false := by decide) : PE X (.Name x pos) (tE X.K (eC (.gl x))) :=
  l_c (pe_glob hg hm (v := .ref a) rfl hd) fun _ _ => .gl gA
end
def cIsX (TG : List ((Str × Str) × Bool)) (TV TN : List Str) : CF := fun ds S => match ds with
  | [.exc n _, .gl m] => (match TG.lookup (n, m) with
    | some b => some (.bl b, S)
    | none => none)
  | [.exc n _, .ty t] => if t == "ValueError" && TV.contains n then some (.bl true, S) else none
  | [.non, .gl m] => if TN.contains m then some (.bl false, S) else none
  | [.non, .ty t] => if t == "ValueError" then some (.bl false, S) else cIsi ds S
  | _ => cIsi ds S
structure IsT (K : PySem.W.Frag) (TG : List ((Str × Str) × Bool)) (TV TN : List Str) : Prop where
  g : XcG K
  tg : ∀ n m b, ((n, m), b) ∈ TG → ∃ C C', GA K n C ∧ GA K m C' ∧ XcC K C ∧ PySem.W.kitOne K (.ref C) (.ref C') = some b
  tv : ∀ n ∈ TV, ∃ C, GA K n C ∧ XcC K C ∧ PySem.W.kitOne K (.ref C) (.type "ValueError") = some true
  tn : ∀ n ∈ TN, ∃ C, GA K n C ∧ PySem.W.kitOne K (.type "NoneType") (.ref C) = some false
def rIsK (K : PySem.W.Frag) : List V → Hp → VK → Prop := fun xs H Q => ∃ (a C : Addr) (c : V) (cv : Value) (b : Bool), xs = [.ref a, c] ∧ ((∃ d fs, H a = some (ExK a C d) ∧ H d = some (.xd fs)) ∨ H a = some (ExN a C)) ∧ XcC K C ∧ XcG K ∧ (∀ u, RelV c u → u = cv) ∧ PySem.W.kitOne K (.ref C) cv = some b ∧ Q (.bl b) H
theorem call_isK {X : Cx} : CallR X (.builtin "isinstance") (rIsK X.K) := by
  intro pins s σ H xs us Q I rv h
  obtain ⟨a, C, c, cv, b, rfl, k, xc, xg, hcv, e, q⟩ := h
  cases rv with
  | cons rx rr =>
    cases rr with
    | cons rt rr =>
      cases rr
      cases rx
      obtain rfl := hcv _ rt
      have J : ∃ oe od, PySem.W.InstAt s.heap a oe C od := by
        rcases k with ⟨d, fs, k1, k2⟩ | k1
        · obtain ⟨oe, vs, e1, e2, e3, e4⟩ := exk_at I.hok k1
          obtain ⟨mA, ⟨od, es, ep, hod, _⟩, _⟩ := (show ObjOk X.prog X.w H s.heap d (.xd fs) from I.hok d _ k2)
          exact ⟨oe, some od, e1, e2, by unfold PySem.W.notCls; rw [e4], by rw [e3]; exact hod⟩
        · have x : ObjOk X.prog X.w H s.heap a (.ext fun h => ∃ (oe : Obj) (vs : Array Value), h.get? a = some oe ∧ oe.cls = .ref C ∧ oe.dict = none ∧ oe.data = .fields vs) := I.hok a _ k1
          obtain ⟨oe, vs, e1, e2, e3, e4⟩ := x.1
          exact ⟨oe, none, e1, e2, by unfold PySem.W.notCls; rw [e4], by rw [e3]; trivial⟩
      obtain ⟨oe, od, J⟩ := J
      exact PySem.W.kia_one (PySem.W.kitx_exc xc.cl xc.ga xc.gg xc.ex xc.ca xg.hn xg.ht xc.mr) I.kIn J e (fun z => nomatch z) fun tk => ⟨.bl b, H, I.kept (t' := tk) fun _ _ z => z, rfl, q⟩
theorem lookup_mem {α β : Type} [BEq α] [LawfulBEq α] {l : List (α × β)} {a : α} {b : β} (h : l.lookup a = some b) : (a, b) ∈ l := by
  induction l with
  | nil => cases h
  | cons p l ih =>
    obtain ⟨x, y⟩ := p
    rw [List.lookup_cons] at h
    split at h
    · rename_i hb
      cases h
      rw [eq_of_beq hb]
      exact List.mem_cons_self
    · exact List.mem_cons_of_mem _ (ih h)
theorem ok_isX {K : PySem.W.Frag} {TG : List ((Str × Str) × Bool)} {TV TN : List Str} (T : IsT K TG TV TN) : OkCall K (fun xs H Q => rIsK K xs H Q ∨ rIsi K xs H Q) (cIsX TG TV TN) := by
  intro ρ H S S' vs ds z Q r hv hg q
  unfold cIsX at hg
  split at hg
  · rename_i n d m
    split at hg
    · rename_i b hb
      cases hg
      obtain ⟨C, C', g1, g2, xc, kit⟩ := T.tg n m b (lookup_mem hb)
      obtain ⟨v, u, rfl, hw, hu⟩ := rds2 hv
      cases hw with
      | exc k1 k2 k3 k4 k5 k6 k7 =>
        obtain rfl := g1.one k1
        cases hu with
        | gl k8 =>
          obtain rfl := g2.one k8
          exact .inl ⟨_, _, _, .ref _, b, rfl, .inl ⟨_, _, k2, k3⟩, xc, T.g, fun u h => h, kit, q ρ H _ (Ext.refl ρ H) r (.bl _)⟩
      | excN k1 k2 k3 =>
        obtain rfl := g1.one k1
        cases hu with
        | gl k8 =>
          obtain rfl := g2.one k8
          exact .inl ⟨_, _, _, .ref _, b, rfl, .inr k2, xc, T.g, fun u h => h, kit, q ρ H _ (Ext.refl ρ H) r (.bl _)⟩
    · cases hg
  · rename_i n d t
    split at hg
    · rename_i hc
      cases hg
      rw [Bool.and_eq_true, List.contains_iff_mem, beq_iff_eq] at hc
      obtain ⟨ht, hn⟩ := hc
      subst ht
      obtain ⟨C, g1, xc, kit⟩ := T.tv n hn
      obtain ⟨v, u, rfl, hw, hu⟩ := rds2 hv
      cases hw with
      | exc k1 k2 k3 k4 k5 k6 k7 =>
        obtain rfl := g1.one k1
        cases hu
        exact .inl ⟨_, _, _, .type "ValueError", true, rfl, .inl ⟨_, _, k2, k3⟩, xc, T.g, fun u h => h, kit, q ρ H _ (Ext.refl ρ H) r (.bl _)⟩
      | excN k1 k2 k3 =>
        obtain rfl := g1.one k1
        cases hu
        exact .inl ⟨_, _, _, .type "ValueError", true, rfl, .inr k2, xc, T.g, fun u h => h, kit, q ρ H _ (Ext.refl ρ H) r (.bl _)⟩
    · cases hg
  · rename_i m
    split at hg
    · rename_i hc
      cases hg
      rw [List.contains_iff_mem] at hc
      obtain ⟨C, g1, kit⟩ := T.tn m hc
      obtain ⟨v, u, rfl, hw, hu⟩ := rds2 hv
      cases hw
      cases hu with
      | gl k8 =>
        obtain rfl := g1.one k8
        exact .inr ⟨.non, .ref _, .type "NoneType", .ref _, false, rfl, .own _, .base .non, kit, q ρ H _ (Ext.refl ρ H) r (.bl _)⟩
    · cases hg
  · rename_i t
    split at hg
    · rename_i hc
      cases hg
      rw [beq_iff_eq] at hc
      subst hc
      obtain ⟨v, u, rfl, hw, hu⟩ := rds2 hv
      cases hw
      cases hu
      exact .inr ⟨.non, .ty "ValueError", .type "NoneType", .type "ValueError", false, rfl, .ty _, .base .non, by rfl, q ρ H _ (Ext.refl ρ H) r (.bl _)⟩
    · exact .inr (ok_isi ρ H S S' vs _ z Q r hv hg q)
  · exact .inr (ok_isi ρ H S S' vs ds z Q r hv hg q)
theorem cr_isX {X : Cx} : CallR X (.builtin "isinstance") (fun xs H Q => rIsK X.K xs H Q ∨ rIsi X.K xs H Q) := CallR.or call_isK call_isi
end Lv
namespace Lv
open PySem PySem.Spec PyProof.Rows L2
def Doors (P : Program) (w : World) (K : PySem.W.Frag) (mg : Str → Option Value) (base : Heap) (k : Nat) (T : List (Str × CFX)) : Prop :=
  ∀ n g, (n, g) ∈ T → ∃ (f : Addr) (fd : FuncData) (ps : List Str), GA K n f ∧ FnX P w K mg base k f fd ps (spX K ps.length g) ∧ PySem.W.keepIn K (.ref f) = true ∧ Binds K fd ps [] ∧ ArX g ps.length
section
variable {P : Program} {w : World} {K : PySem.W.Frag} {mg : Str → Option Value} {base : Heap} {k : Nat} {T : List (Str × CFX)}
theorem Doors.nil : Doors P w K mg base k [] := fun n g h => by cases h
theorem Doors.cons {n : Str} {g : CFX} {f : Addr} {fd : FuncData} {ps : List Str} {j m : Nat} (h1 : GA K n f) (h2 : FnX P w K mg base j f fd ps (spX K m g)) (hj : j ≤ k) (hm : ps.length = m) (h3 : PySem.W.keepIn K (.ref f) = true) (h4 : Binds K fd ps []) (h5 : ArX g m) (h : Doors P w K mg base k T) :
    Doors P w K mg base k ((n, g) :: T) := fun n' g' hm' => by
  rcases List.mem_cons.mp hm' with e | hm'
  · cases e
    subst hm
    exact ⟨f, fd, ps, h1, h2.mono hj, h3, h4, h5⟩
  · exact h n' g' hm'
end
section
variable {X : Cx} {W : WX} {k : Nat} {T : List (Str × CFX)} {fe e : Expr} {es : List Expr} {ff : EF} {fs : AF} {pos : Pos}
end
def eTh (i : Nat) (L : D) (th : Sto → Option (Res × Sto)) : EFX := fun env S => match env[i]? with
  | some (some d) => if eqB d L then th S else none
  | _ => none
structure FnT (P : Program) (w : World) (K : PySem.W.Frag) (mg : Str → Option Value) (base : Heap) (k : Nat) (f : Addr) (fd : FuncData) (a : Str) (ps N : List Str) (qual : Str) (scope : Scope) (n : Nat) (g : D → (Sto → Option (Res × Sto)) → CF) : Prop where
  run : ∀ (A : Around) (outer : List PySem.Env) (s : Shared) (H : Hp) (args : Args) (us : List Value) (vs : List V) (Q : VK) (L : D) (th : Sto → Option (Res × Sto)), Room k A → A.guards = some [] → Env0 P w K mg base A outer s H → BindsTo s fd args (ps.zip us) → Vals vs us →
    (∀ (W : WX) (pn : List (Addr × Obj)) (xe : Value → Shared → Prop) (p1 p2 : Pos), Takes ((cxOf CX0 P w K mg base N qual scope f fd.code A outer s H E0).tr pn xe) W →
      PE ((cxOf CX0 P w K mg base N qual scope f fd.code A outer s H E0).tr pn xe) (.Call (.Name a p1) [] [] p2) (tEX K W (eTh 0 L th))) →
    spOf K n (g L th) vs H Q E0 → codeAny (model P w) A (.call (.ref f) args) (CR CX0 outer P w H s Q E0) s
section
variable {P : Program} {w : World} {K : PySem.W.Frag} {mg : Str → Option Value} {base : Heap}
theorem FnT.sealed {k n : Nat} {f : Addr} {fd : FuncData} {a : Str} {ps N : List Str} {qual : Str} {scope : Scope} {g : D → (Sto → Option (Res × Sto)) → CF} (F : FnT P w K mg base k f fd a ps N qual scope n g) : FnT P w K mg base k f fd a ps N qual scope n (fun L th => sealed (g L th)) := by
  refine ⟨fun A outer s H args us vs Q L th hr hg e0 hb rv act hsp => F.run A outer s H args us vs Q L th hr hg e0 hb rv act ?_⟩
  obtain ⟨hl, ρ, S0, ds, z, S', r, hd, hf, q⟩ := hsp
  unfold Lv.sealed at hf
  split at hf
  · rename_i z1 S1 h1
    refine ⟨hl, ρ, S0, ds, z1, S1, r, hd, h1, fun ρ' H' v e r' hv => ?_⟩
    obtain ⟨e2, r2, v2⟩ := seal_ok r e r' hv hf
    exact q ρ H' v e2 r2 v2
  · cases hf
theorem FnT.mono {j k n : Nat} {f : Addr} {fd : FuncData} {a : Str} {ps N : List Str} {qual : Str} {scope : Scope} {g : D → (Sto → Option (Res × Sto)) → CF} (F : FnT P w K mg base j f fd a ps N qual scope n g) (h : j ≤ k) : FnT P w K mg base k f fd a ps N qual scope n g :=
  ⟨fun A outer s H args us vs Q L th hr => F.run A outer s H args us vs Q L th (hr.mono h)⟩
end
section
variable {X : Cx} {pins : List (Addr × Obj)} {σ : L2.St} {H : Hp} {s : Shared}
end
section
variable {X : Cx} {pins : List (Addr × Obj)} {σ : L2.St} {H : Hp} {s : Shared}
end
section
variable {X : Cx}
end
end Lv
namespace Lv
open PySem PySem.Spec PyProof.Rows L2
section
variable {P : Program} {w : World} {K : PySem.W.Frag} {mg : Str → Option Value} {base : Heap}
theorem init_ok {qual : Str} {st : Stmt} {f : Addr} {fd : FuncData} {p1 p2 p3 p4 : Pos} (F : FunN K "__init__" qual st f fd) (hst : defBody st = [.Assign [.Attribute (.Name "self" p1) "value" p2] (.Name "value" p3) p4]) (S : FnScope ["self", "value"] ["self", "value"] (defScope st))
    (v1 : (defScope st).names.lookup ("self" : Str) = some .local) (v2 : (defScope st).names.lookup ("value" : Str) = some .local) : FnOk P w K mg base CX0 1 f fd ["self", "value"] (spI K) := by
  obtain ⟨oc, od, dV, kV, doc, pm, an, cdv, ct, osl, rfl, lk, hcd, _, _⟩ := F.ex
  refine ⟨fun vs H Q E h => ?_, fun A outer s H args us vs Q E hr e0 hb rv hsp => ?_⟩
  · obtain ⟨a, C, x, rfl, _⟩ := h
    rfl
  · obtain ⟨a, C, x, rfl, oC, vC, ha, go⟩ := hsp
    refine LamX.run_ofS (CX := CX0) (N := ["self", "value"]) (ps := ["self", "value"]) (us := us) (vs := [.ref a, x]) lk hcd S hr e0 hb rv rfl fun hr' => ?_
    rw [hst]
    refine ⟨_, pss_one (ps_ost (pe_var (i := 0) rfl (.inl v1)) (pe_var (i := 1) rfl (.inl v2)) rfl), ?_⟩
    exact ⟨x, rfl, .ref a, rfl, a, C, rfl, oC, vC, .inl ⟨ha, fun dx nd ne => go dx nd ne⟩⟩
theorem errC_mk {n : Str} {C fI : Addr} {fd : FuncData} (gC : GA K n C) (mC : mg n = some (.ref C)) (oC : OexC K C) (vC : PySem.W.findIn K (.ref C) "value" = some none) (iC : PySem.W.findIn K (.ref C) "__init__" = some (some (.ref fI))) (tI : PySem.W.typeIn K (.ref fI) = some (.type "function"))
    (hb : Binds K fd ["self", "value"] []) (F : FnOk P w K mg base CX0 1 fI fd ["self", "value"] (spI K)) : ErrC P w K mg base n := ⟨C, fI, fd, gC, mC, oC, vC, iC, tI, hb, F⟩
theorem kit_sub {C C' : Addr} {b : Bool} (hd : PySem.W.hasDictIn K C' = true) (ty : PySem.W.typeIn K (.ref C') = some (.type "type")) (h : PySem.W.subIn K (.ref C) (.ref C') = some b) (h0 : PySem.W.subIn K (.ref C) (.ref C) = some true) : PySem.W.kitOne K (.ref C) (.ref C') = some b := by
  unfold PySem.W.kitOne
  split
  · rename_i e
    have e2 : C = C' := Value.ref.inj (beq_iff_eq.mp e)
    subst e2
    exact h0.symm.trans h
  · obtain ⟨cd, hc, _⟩ := PySem.W.any_some hd
    show (if ((PySem.W.clsIn K C').isSome && PySem.W.typeIn K (.ref C') == some (.type "type")) = true then PySem.W.subIn K (.ref C) (.ref C') else none) = some b
    rw [hc, ty]
    exact h
theorem kit_ve {C : Addr} (h : PySem.W.subIn K (.ref C) (.type "ValueError") = some true) : PySem.W.kitOne K (.ref C) (.type "ValueError") = some true := by
  unfold PySem.W.kitOne
  rw [if_neg (show ¬ ((Value.ref C == Value.type "ValueError") = true) from by simp)]
  show (if PySem.W.kitMeta "ValueError" = true then PySem.W.subIn K (.ref C) (.type "ValueError") else none) = some true
  rw [if_pos (by decide +kernel)]
  exact h
theorem kit_none {C : Addr} (hd : PySem.W.hasDictIn K C = true) (ty : PySem.W.typeIn K (.ref C) = some (.type "type")) (h : PySem.W.subIn K (.type "NoneType") (.ref C) = some false) : PySem.W.kitOne K (.type "NoneType") (.ref C) = some false := by
  unfold PySem.W.kitOne
  rw [if_neg (show ¬ ((Value.type "NoneType" == Value.ref C) = true) from by simp)]
  obtain ⟨cd, hc, _⟩ := PySem.W.any_some hd
  show (if ((PySem.W.clsIn K C).isSome && PySem.W.typeIn K (.ref C) == some (.type "type")) = true then PySem.W.subIn K (.type "NoneType") (.ref C) else none) = some false
  rw [hc, ty]
  exact h
end
section
variable {P : Program} {w : World} {K : PySem.W.Frag} {mg mb : Str → Option Value} {k : Nat} {fa a : Addr} {fd : FuncData} {x : Str} {sp : Sp} {s₁ : Shared} {vs : List Value} {ns : List Int} {cs : List (Addr × Addr)}
theorem call_gT (KX : K.In s₁.heap) (hns : s₁.heap.Ns mainGlobals mg) (hb : s₁.heap.Ns builtinsNs mb) (hbb : ∀ x : Str, x ≠ "__name__" → mb x = bootBuiltins x) (hlim : s₁.heap.NoLimit) (hgen : s₁.gens = #[])
    (tabs : ∀ p ∈ cs, s₁.heap.get? p.2 = some { cls := .none, data := .fields #[] }) (noK : ∀ p ∈ cs, K.lookup p.2 = none) (heads : ∀ p ∈ cs, PySem.W.CodeHd s₁.heap p.1 p.2)
    (mainB : ∃ (bm : Addr) (ob : Obj), mg "__builtins__" = some (.ref bm) ∧ bm ≠ builtinsNs ∧ s₁.heap.get? bm = some ob ∧ ob.cls = .type "module" ∧ ob.dict = some builtinsNs ∧ ob.data = .plain)
    (hobj : s₁.heap.get? a = some { cls := .type "list", data := .seq vs.toArray }) (hr : Room k callerA)
    (F : ∀ base : Heap, K.In base → base.Ns mainGlobals mg → (∀ p ∈ cs, LamX.TabB base mg p.1 p.2) → FnG P w K mg base k fa fd [x] sp) (hbind : ∀ (s : Shared) (u : Value), BindsTo s fd ⟨[u], []⟩ [(x, u)])
    (H : Hp) (only : ∀ b u, H b = some u → (b = a ∧ K.lookup b = none ∧ ∃ ob ys, u = .frz ob (.lst ys)) ∨ ∃ p ∈ cs, b = p.2 ∧ u = .tbl #[]) (hok : HOk P w H s₁.heap) (hsp : sp [.ref a] H (fun v _ => v = .bl true) E0) :
    codeAny (model P w) callerA (.call (.ref fa) ⟨[.ref a], []⟩) (fun r s' => r = .ok (.ret (.bool true)) ∧ OldK s₁.heap s'.heap ∧ s'.os = s₁.os ∧ AllBare s'.gens) s₁ := by
  have untold : ∀ {b : Addr} {ob : Obj}, s₁.heap.get? b = some ob → (∀ xs m, ob.data ≠ .seq xs m) → ob.data ≠ .fields #[] → H b = none := by
    intro b ob e1 e2 e3
    cases q : H b with
    | none => rfl
    | some u =>
      exfalso
      rcases only b u q with ⟨rfl, _⟩ | ⟨p, hp, rfl, _⟩
      · rw [hobj] at e1
        cases e1
        exact e2 _ _ rfl
      · rw [tabs p hp] at e1
        cases e1
        exact e3 rfl
  have ns2 : ∀ {b : Addr} {m : Str → Option Value}, s₁.heap.Ns b m → (hidT s₁.heap H).Ns b m := by
    rintro b m ⟨ob, es, ep, e1, e2, e3⟩
    exact ⟨ob, es, ep, hidT_get e1 (untold e1 (fun xs m z => by rw [e2] at z; cases z) (fun z => by rw [e2] at z; cases z)), e2, e3⟩
  have kb : K.In (hidT s₁.heap H) := by
    intro b ob e1
    refine hidT_get (KX b ob e1) ?_
    cases q : H b with
    | none => rfl
    | some u =>
      exfalso
      rcases only b u q with ⟨_, e2, _⟩ | ⟨p, hp, rfl, _⟩
      · rw [e2] at e1
        cases e1
      · rw [noK p hp] at e1
        cases e1
  have e0 : Env0 P w K mg (hidT s₁.heap H) callerA [] s₁ H := by
    refine ⟨rfl, ⟨kb, ns2 hns, ⟨mb, ns2 hb, hbb⟩, ?_⟩, fun b ob e1 => of_hidT e1, Nat.le_of_eq (hidT_size _ _), trivial, fun b hm => (nomatch (show b ∈ ([] : List Addr) from hm)), hok, AllBare.of_eq hgen⟩
    obtain ⟨mc, e1, e2⟩ := hlim
    exact ⟨mc, ns2 e1, e2⟩
  have tb : ∀ p ∈ cs, LamX.TabB (hidT s₁.heap H) mg p.1 p.2 := fun p hp => by
    have tp := tabs p hp
    obtain ⟨o, us, file, tf, flags, tg, inF, text, tt, e1, c1, c2, c3, c4⟩ := heads p hp
    obtain ⟨bm, ob, b1, b2, b3, b4, b5, b6⟩ := mainB
    refine ⟨⟨o, us, file, tf, flags, tg, inF, text, tt, hidT_get e1 (untold e1 (fun xs m z => ?_) fun z => ?_), c1, c2, c3, c4⟩, ⟨bm, ob, b1, b2, fun z => ?_, fun z => ?_, hidT_get b3 (untold b3 (fun xs m z => ?_) fun z => ?_), b4, b5, b6⟩, fun z => ?_⟩
    · rw [c2] at z
      cases z
    · rw [c2] at z
      cases z
      simp at c3
    · obtain ⟨o2, es, ep, g1, g2, _⟩ := hns
      rw [z, g1] at b3
      cases b3
      rw [g2] at b6
      cases b6
    · rw [z, tp] at b3
      cases b3
      cases b6
    · rw [b6] at z
      cases z
    · rw [b6] at z
      cases z
    · obtain ⟨o2, es, ep, g1, g2, _⟩ := hns
      rw [z, tp] at g1
      cases g1
      cases g2
  have run := (F _ kb (ns2 hns) tb).run callerA [] s₁ H ⟨[.ref a], []⟩ [.ref a] [.ref a] _ hr rfl e0 (hbind s₁ (.ref a)) (.cons rfl .nil) hsp
  refine codeAny_mono run fun res s' hres => ?_
  cases res with
  | error e => exact False.elim hres
  | ok fl =>
    cases fl with
    | ret u =>
      obtain ⟨v, H', hos, hbare, hun, hok', rv, hv⟩ := hres
      obtain rfl : v = .bl true := hv
      obtain rfl : u = Value.bool true := rv
      refine ⟨rfl, ⟨fun b ob e1 => ?_, fun b ob e1 => ?_⟩, hos, hbare⟩
      · cases q : H b with
        | none => exact .inl (hun.keep b ob e1 q (fun z => (nomatch (show b ∈ ([] : List Addr) from z))) (by simp))
        | some u =>
          rcases only b u q with ⟨_, _, ob2, ys, rfl⟩ | ⟨p, hp, rfl, rfl⟩
          · obtain ⟨e2, _⟩ := hok b _ q
            obtain ⟨e3, _⟩ := hok' b _ (hun.frzs b ob2 _ q)
            rw [e1] at e2
            cases e2
            exact .inl e3
          · obtain ⟨more, z⟩ := hun.tbls _ _ q
            have e3 : s'.heap.get? p.2 = some { cls := .none, data := .fields (#[] ++ more) } := hok' p.2 _ z
            rw [tabs p hp] at e1
            cases e1
            exact .inr (.inl ⟨((heads p hp).tab (tabs p hp)).isCodeTable, rfl, #[], more, rfl, e3⟩)
      · cases q : H b with
        | none => exact ⟨ob, hun.keep b ob e1 q (fun z => (nomatch (show b ∈ ([] : List Addr) from z))) (by simp)⟩
        | some u =>
          rcases only b u q with ⟨_, _, ob2, ys, rfl⟩ | ⟨p, hp, rfl, rfl⟩
          · obtain ⟨e3, _⟩ := hok' b _ (hun.frzs b ob2 _ q)
            exact ⟨_, e3⟩
          · obtain ⟨more, z⟩ := hun.tbls _ _ q
            have e3 : s'.heap.get? p.2 = some { cls := .none, data := .fields (#[] ++ more) } := hok' p.2 _ z
            exact ⟨_, e3⟩
    | next => exact False.elim hres
    | brk => exact False.elim hres
    | cont => exact False.elim hres
end
def heapT (Ts : List Addr) : Hp := fun b => if b ∈ Ts then some (.tbl #[]) else none
def heapS (a : Addr) (o : HO) (Ts : List Addr) : Hp := fun b => if b = a then some o else if b ∈ Ts then some (.tbl #[]) else none
def tblC (t : Str × Str) : Cell := .tbl t.1 t.2
def ScrT (T : List (Str × Str)) (g : CF) (ns : List Int) : Prop := (∃ S', g [.ref 0] (.frz (ns.map D.int) :: T.map tblC) = some (.bl true, S')) ∧ ∃ S', g [.kl (ns.map D.int)] (T.map tblC) = some (.bl true, S')
structure TabsF (K : PySem.W.Frag) (T : List (Str × Str)) (cs : List (Addr × Addr)) : Prop where
  len : T.length = cs.length
  at_ : ∀ (i : Nat) t p, T[i]? = some t → cs[i]? = some p → PySem.W.tabIn K t.1 = some p
  nd : (cs.map (·.2)).Nodup
theorem TabsF.nil {K : PySem.W.Frag} : TabsF K [] [] := ⟨rfl, fun i t p a _ => by simp at a, .nil⟩
theorem TabsF.cons {K : PySem.W.Frag} {T : List (Str × Str)} {cs : List (Addr × Addr)} {n q : Str} {c P : Addr} (h1 : PySem.W.tabIn K n = some (c, P)) (h2 : P ∉ cs.map (·.2)) (h : TabsF K T cs) : TabsF K ((n, q) :: T) ((c, P) :: cs) := by
  refine ⟨by simp [h.len], fun i t p a b => ?_, by simpa using ⟨by simpa using h2, by simpa using h.nd⟩⟩
  cases i with
  | zero => cases a; cases b; exact h1
  | succ i => exact h.at_ i t p (by simpa using a) (by simpa using b)
theorem rel_tabs {K : PySem.W.Frag} {T : List (Str × Str)} {cs : List (Addr × Addr)} {H : Hp} (h : TabsF K T cs) (hH : ∀ p ∈ cs, H p.2 = some (.tbl #[])) : Rel K (cs.map (·.2)) H (T.map tblC) := by
  refine ⟨by simp [h.len], h.nd, fun n b c h1 h2 => ?_⟩
  rw [List.getElem?_map] at h1 h2
  cases e1 : cs[n]? with
  | none => rw [e1] at h1; cases h1
  | some p =>
    cases e2 : T[n]? with
    | none => rw [e2] at h2; cases h2
    | some t =>
      rw [e1] at h1
      rw [e2] at h2
      cases h1; cases h2
      refine ⟨⟨p.1, h.at_ n t p e2 e1⟩, #[], hH p (List.mem_of_getElem? e1), trivial, fun pos cv hc => ?_⟩
      simp [codeAmong] at hc
theorem end_gT {l : PySem.W.OpenLaw} {n k : Nat} {q : Program} {loose : List Str} {XP : (Str → Option Value) → Heap → Prop} {YP : World → Heap → Prop} {d : DefRec} {K : Params → PySem.W.Frag} {x : Str} {g : CF} {T : List (Str × Str)}
    (hn : l.most = some n) (hn2 : n ≤ sizeLine) (hdf : d.params.defaults = []) (hr : Room k callerA) (hY : ∀ (w : World) (h : Heap), YP w h → (K w.params).In h)
    (F : ∀ (w : World) (mg : Str → Option Value) (fa : Addr) (h : Heap), (∀ (x : Str) (d : DefRec) (c P : Addr), (PyProof.Rows.recsOf q).find? (fun e => e.name == x) = some d → PySem.W.tabIn (K w.params) x = some (c, P) → PySem.W.CodeHd h c P ∧ h.get? P = some { cls := .none, data := .fields #[] }) → (K w.params).In h → h.Ns mainGlobals mg → mg d.name = some (.ref fa) →
      ∃ (fd : FuncData) (cs : List (Addr × Addr)), TabsF (K w.params) T cs ∧ (∀ p ∈ cs, h.get? p.2 = some { cls := .none, data := .fields #[] }) ∧ (∀ p ∈ cs, (K w.params).lookup p.2 = none) ∧ (∀ p ∈ cs, PySem.W.CodeHd h p.1 p.2) ∧
        (∀ (s : Shared) (u : Value), BindsTo s fd ⟨[u], []⟩ [(x, u)]) ∧ ∀ base : Heap, (K w.params).In base → base.Ns mainGlobals mg → (∀ p ∈ cs, LamX.TabB base mg p.1 p.2) → FnG l.prog w (K w.params) mg base k fa fd [x] (spOf (K w.params) 1 g))
    (hg : ∀ ns : List Int, ns.length ≤ n → ScrT T g ns) : PySem.W.WalkO q loose XP YP l.row.toRowW d [] (fun f vs => PySem.call f vs) := by
  refine Att.attach_call hn hdf fun w s₀ s₁ mg mb fa o pm cd doc a vs ns G Y ho hd hcd hmg hobj hints hlen hgen => ?_
  have KX := hY w _ Y
  obtain ⟨fd, cs, TF, hT, nT, hC, hb, hF⟩ := F w mg fa _ (fun x d c P e1 e2 => PySem.W.tab_of G.T KX e1 e2) KX G.T.g hmg
  have rv := vals_ints hints
  obtain ⟨⟨S1, g1⟩, S2, g2⟩ := hg ns hlen
  have aT : a ∉ cs.map (·.2) := fun z => by
    obtain ⟨p, hp, e⟩ := List.mem_map.mp z
    have := hT p hp
    rw [e, hobj] at this
    cases this
  have memT : ∀ {b : Addr}, b ∈ cs.map (·.2) → ∃ p ∈ cs, b = p.2 := fun hm => by
    obtain ⟨p, hp, e⟩ := List.mem_map.mp hm
    exact ⟨p, hp, e.symm⟩
  cases hk : (K w.params).lookup a with
  | some ob =>
    have hH : ∀ p ∈ cs, heapT (cs.map (·.2)) p.2 = some (.tbl #[]) := fun p hp => if_pos (List.mem_map.mpr ⟨p, hp, rfl⟩)
    have kl : KLst (K w.params) a (ns.map V.int) := fun H => .inr (by
      have e1 := KX a ob hk
      rw [hobj] at e1
      cases e1
      have e2 := rv.length
      rw [List.length_map] at e2
      exact ⟨_, vs.toArray, _, hk, rfl, rfl, rfl, by rw [List.size_toArray, ← e2]; exact Nat.le_trans hlen hn2, by simpa using rv⟩)
    have qi := ints_rd (K := K w.params) (ρ := cs.map (·.2)) (H := heapT (cs.map (·.2))) ns
    refine call_gT KX G.T.g G.T.b G.T.builtins G.T.nolimit hgen hT nT hC G.T.bmain hobj hr hF hb _ (fun b u z => ?_) (fun b u z => ?_) ⟨rfl, cs.map (·.2), T.map tblC, [.kl (ns.map D.int)], .bl true, S2, rel_tabs TF hH, .cons (.kl kl qi.len qi.at_) .nil, g2, fun ρ' H' v _ _ hv => by cases hv; rfl⟩
    · unfold heapT at z
      split at z
      · rename_i hm
        cases z
        obtain ⟨p, hp, e⟩ := memT hm
        exact .inr ⟨p, hp, e, rfl⟩
      · cases z
    · unfold heapT at z
      split at z
      · rename_i hm
        cases z
        obtain ⟨p, hp, rfl⟩ := memT hm
        exact hT p hp
      · cases z
  | none =>
    have hH : ∀ p ∈ cs, heapS a (.frz { cls := .type "list", data := .seq vs.toArray } (.lst (ns.map V.int))) (cs.map (·.2)) p.2 = some (.tbl #[]) := fun p hp => by
      have hm : p.2 ∈ cs.map (·.2) := List.mem_map.mpr ⟨p, hp, rfl⟩
      unfold heapS
      rw [if_neg (fun z => aT (by rw [← z]; exact hm)), if_pos hm]
    have r0 := rel_tabs TF hH
    have ha0 : heapS a (.frz { cls := .type "list", data := .seq vs.toArray } (.lst (ns.map V.int))) (cs.map (·.2)) a = some (.frz { cls := .type "list", data := .seq vs.toArray } (.lst (ns.map V.int))) := if_pos rfl
    refine call_gT KX G.T.g G.T.b G.T.builtins G.T.nolimit hgen hT nT hC G.T.bmain hobj hr hF hb _ (fun b u z => ?_) (fun b u z => ?_) ⟨rfl, a :: cs.map (·.2), .frz (ns.map D.int) :: T.map tblC, [.ref 0], .bl true, S1, ⟨by simp [TF.len], by simpa using ⟨by simpa using aT, by simpa using TF.nd⟩, fun m b c h1 h2 => ?_⟩, .cons (.ref rfl (.inr ⟨_, _, ha0⟩)) .nil, g1, fun ρ' H' v _ _ hv => by cases hv; rfl⟩
    · unfold heapS at z
      split at z
      · rename_i hba
        cases z
        exact .inl ⟨hba, by rw [hba]; exact hk, _, _, rfl⟩
      · split at z
        · rename_i hm
          cases z
          obtain ⟨p, hp, e⟩ := memT hm
          exact .inr ⟨p, hp, e, rfl⟩
        · cases z
    · unfold heapS at z
      split at z
      · rename_i hba
        cases z
        subst hba
        exact ⟨hobj, by rw [List.length_map]; exact Nat.le_trans hlen hn2, vs, _, rv, hobj⟩
      · split at z
        · rename_i hm
          cases z
          obtain ⟨p, hp, rfl⟩ := memT hm
          exact hT p hp
        · cases z
    · cases m with
      | zero =>
        cases h1; cases h2
        exact ⟨_, _, ha0, ints_rd ns⟩
      | succ m =>
        have q0 := r0.cell m b c (by simpa using h1) (by simpa using h2)
        have bm : b ∈ cs.map (·.2) := List.mem_of_getElem? (by simpa using h1)
        cases c with
        | tbl n' q' =>
          obtain ⟨k0, ps, k1, k2, k3⟩ := q0
          refine ⟨k0, ps, k1, k2, fun pos cv hc => ?_⟩
          obtain ⟨c, z1, z2, z3⟩ := k3 pos cv hc
          refine ⟨c, z1, fun hm => ?_, z3⟩
          rcases List.mem_cons.mp hm with e | hm
          · subst e
            rw [ha0] at z3
            cases z3
          · exact z2 hm
        | _ =>
          rw [List.getElem?_cons_succ, List.getElem?_map] at h2
          cases e2 : T[m]? with
          | none => rw [e2] at h2; cases h2
          | some t => rw [e2] at h2; cases h2
end Lv
namespace Lv
open PySem PySem.Spec PyProof.Rows L2
section
variable {X : Cx} {a : Expr} {fa : EF} {p p2 q pos : Pos}
end
section
variable {P : Program} {w : World} {K : PySem.W.Frag} {mg : Str → Option Value} {base h : Heap}
theorem xcc_mk {C : Addr} (hd : PySem.W.hasDictIn K C = true) (ga : PySem.W.findIn K (.ref C) "__getattribute__" = some (some (.builtin "BaseException.__getattribute__"))) (gg : PySem.W.findIn K (.ref C) "__getattr__" = some none) (ex : PySem.W.subIn K (.ref C) (.type "BaseException") = some true)
    (ca : PySem.W.findIn K (.ref C) "__class__" = some (some (.builtin "object.__class__"))) (mr : PySem.W.mroIn K C (.type "object") = some true) (va : PySem.W.findIn K (.ref C) "value" = some none) : XcC K C :=
  ⟨by obtain ⟨cd, hc, _⟩ := PySem.W.any_some hd; rw [hc]; rfl, ga, gg, ex, hd, ca, mr, va⟩
def OexO (C : Addr) (o : Obj) : Prop := ∃ nm q N bs bm sn sub ab col dd k0 k1 k2 k3 k5, o = excClassObj nm q C N bs bm true sn sub ab col dd k0 k1 k2 k3 k5 "ValueError.__new__" ∧ PySem.HandSPX.refsVE bm = true
theorem oex_mk {C : Addr} {o : Obj} (l : K.lookup C = some o) (z : OexO C o) (sa : PySem.W.findIn K (.ref C) "__setattr__" = some (some (.builtin "object.__setattr__"))) (ex : PySem.W.subIn K (.ref C) (.type "BaseException") = some true) (ty : PySem.W.typeIn K (.ref C) = some (.type "type")) (kC : PySem.W.keepIn K (.ref C) = true) : OexC K C := by
  obtain ⟨nm, q, N, bs, bm, sn, sub, ab, col, dd, k0, k1, k2, k3, k5, rfl, hb⟩ := z
  exact ⟨⟨nm, q, N, bs, bm, sn, sub, ab, col, dd, k0, k1, k2, k3, k5, l, hb⟩, sa, ex, ty, kC⟩
def TabsB (K : PySem.W.Frag) (mg : Str → Option Value) (base : Heap) (T : List (Str × Str)) : Prop := ∀ t ∈ T, ∀ c P, PySem.W.tabIn K t.1 = some (c, P) → LamX.TabB base mg c P
theorem tabsB_mk {T : List (Str × Str)} {cs : List (Addr × Addr)} (F : TabsF K T cs) (h : ∀ p ∈ cs, LamX.TabB base mg p.1 p.2) : TabsB K mg base T := fun t ht c P e => by
  obtain ⟨i, hi⟩ := List.getElem?_of_mem ht
  have hl : i < cs.length := by rw [← F.len]; exact (List.getElem?_eq_some_iff.mp hi).1
  have hp := List.getElem?_eq_getElem hl
  have := F.at_ i t _ hi hp
  rw [this] at e
  have e' := Option.some.inj e
  have hm := h _ (List.getElem_mem hl)
  rw [e'] at hm
  exact hm
end
end Lv
namespace Lv
open PySem PySem.Spec PyProof.Rows L2
section
variable {P : Program} {w : World} {K : PySem.W.Frag} {mg : Str → Option Value} {base : Heap}
end
end Lv
namespace Lv
open PySem PySem.Spec PyProof.Rows L2
def flatQ : D → Option PyData
  | .non => some .none
  | .bl b => some (.bool b)
  | .int i => some (.int i)
  | .str x => some (.str x)
  | .dv [] [] => some (.dict [])
  | _ => none
inductive Fl (H : Hp) : V → PyData → Prop
  | non : Fl H .non .none
  | bl (b : Bool) : Fl H (.bl b) (.bool b)
  | int (i : Int) : Fl H (.int i) (.int i)
  | str (x : Str) : Fl H (.str x) (.str x)
  | dct {a : Addr} : H a = some (.dK []) → Fl H (.ref a) (.dict [])
inductive FlAll (H : Hp) : List V → List PyData → Prop
  | nil : FlAll H [] []
  | cons {v : V} {vs : List V} {p : PyData} {ps : List PyData} : Fl H v p → FlAll H vs ps → FlAll H (v :: vs) (p :: ps)
def rReprF (K : PySem.W.Frag) : List V → Hp → VK → Prop := fun xs H Q => ∃ (a : Addr) (vs : List V) (ps : List PyData), xs = [.ref a] ∧ SqL K H a vs ∧ FlAll H vs ps ∧ (PyData.list ps).showable = true ∧ (PyData.list ps).depth ≤ 60 ∧ (PyData.list ps).shown.length ≤ sizeLine ∧ Q (.str (PyData.list ps).shown) H
section
variable {X : Cx} {pins : List (Addr × Obj)} {σ : L2.St} {H : Hp} {s : Shared}
theorem Fl.reads (I : Inv X pins σ H s) {v : V} {u : Value} {p : PyData} (h : Fl H v p) (r : RelV v u) : ∃ as, Reads s.heap u p as ∧ sysModules ∉ as := by
  cases h with
  | non => cases r; exact ⟨[], .none, by simp⟩
  | bl b => cases r; exact ⟨[], .bool b, by simp⟩
  | int i => obtain ⟨t, rfl⟩ := r; exact ⟨[], .int i t, by simp⟩
  | str x => obtain ⟨t, rfl⟩ := r; exact ⟨[], .str x t, by simp⟩
  | dct h =>
    rename_i a
    obtain rfl : u = Value.ref a := r
    obtain ⟨_, hs, vs, rk, o, es, ep, ho, ⟨hc, _⟩, hd, _, hp, _⟩ := (show ObjOk X.prog X.w H s.heap a (.dK []) from I.hok a _ h)
    cases rk
    have he : es.toList = [] := by
      cases e : es.toList with
      | nil => rfl
      | cons b bs => rw [e] at hp; cases hp
    exact ⟨_, .dict (as := []) (bs := []) ho hc hd (by rw [he]; exact .nil) (by rw [he]; exact .nil), fun hm => by
      have := List.mem_singleton.mp hm
      rw [← this] at hs
      simp at hs⟩
theorem FlAll.reads (I : Inv X pins σ H s) : ∀ {vs : List V} {us : List Value} {ps : List PyData}, FlAll H vs ps → Vals vs us → ∃ as, ReadsAll s.heap us ps as ∧ sysModules ∉ as
  | _, _, _, .nil, r => by cases r; exact ⟨[], .nil, by simp⟩
  | _, _, _, .cons h hs, r => by
    cases r with
    | cons r1 r2 =>
      obtain ⟨as, q1, n1⟩ := h.reads I r1
      obtain ⟨bs, q2, n2⟩ := FlAll.reads I hs r2
      exact ⟨_, .cons q1 q2, by simp [n1, n2]⟩
end
theorem call_reprF {X : Cx} (hG : X.A.guards = some []) (hu : X.A.units + 64 < cLine) : CallR X (.builtin "repr") (rReprF X.K) := by
  intro pins s σ H xs us Q I rv h
  obtain ⟨a, vs, ps, rfl, hs, hf, h1, h3, h4, q⟩ := h
  cases rv with
  | cons r1 rn =>
    rename_i u us'
    cases rn
    obtain rfl : u = Value.ref a := r1
    obtain ⟨its, rv, ⟨o, n, ho, hc, _, hd⟩, _⟩ := I.list hs
    obtain ⟨as, hr, hn⟩ := hf.reads I rv
    have hz : (listText (PyData.shownAll ps)).length ≤ sizeLine := by simpa only [PyData.shown] using h4
    have hD : PyData.depthAll ps + 1 ≤ 60 := by simpa only [PyData.depth] using h3
    obtain ⟨bs, hb, hk⟩ := ReprAllK.of_readsAll (prog := X.prog) (w := X.w) hr (by simpa [PyData.showable] using h1) (fun _ => hn) (fun t ht => Nat.le_trans (listText_mem_le ht) hz)
    have hna : a ∉ bs := not_mem_of_deeper (.list ho hc hd hr) (by simp only [PyData.depth]; omega) hb
    refine call_repr_slot (by omega) (⟨o, ho, hc⟩ : s.TypeIs (.ref a) "list") F.slot_list_repr.toG ?_
    have hQ : ∀ h' u tk, (∀ b o, s.heap.get? b = some o → h'.get? b = some o) → (fun r s₁ => ∃ x t, r = Value.str x t ∧ EP X pins σ Q r s₁) (.str (listText (PyData.shownAll ps)) u) { s with heap := h', toks := tk } := fun h' u tk k => ⟨_, _, rfl, .str _, H, I.kept k, ⟨u, rfl⟩, by
      simpa only [PyData.shown] using q⟩
    cases its with
    | nil =>
      cases hr
      simp only [PyData.shownAll, listText_nil] at hQ
      exact call_list_repr_empty ⟨o, ho, hc⟩ ho hd (hQ s.heap _ _ fun _ _ e => e)
    | cons x l =>
      exact call_list_reprK ho hc hd hna (by simpa using hk.length_eq) (fun i y e => hk.item i y (by simpa using e)) hG (fun b _ => Clear.nil b) (by show X.A.units + 1 + (PyData.depthAll ps + 1) < cLine; omega) (fun _ _ e => e) hQ hz
def rReprG (K : PySem.W.Frag) : List V → Hp → VK → Prop := fun xs H Q => rRepr K xs H Q ∨ rReprF K xs H Q
theorem call_reprG {X : Cx} (hG : X.A.guards = some []) (hu : X.A.units + 64 < cLine) : CallR X (.builtin "repr") (rReprG X.K) := CallR.or (call_repr hG hu) (call_reprF hG hu)
def cReprE : CF := fun ds S => match cRepr ds S with
  | some r => some r
  | none => (match ds with
    | [.vl es] => (match mapO flatQ es with
      | some ps => if (PyData.list ps).showable && decide ((PyData.list ps).depth ≤ 60) && sizeP (.list ps) then some (.str (PyData.list ps).shown, S) else none
      | none => none)
    | _ => none)
theorem cReprE_of {d t : D} {S S' : Sto} (h : cRepr [d] S = some (t, S')) : cReprE [d] S = some (t, S') := by
  unfold cReprE
  rw [h]
section
variable {K : PySem.W.Frag} {ρ : List Addr} {H : Hp}
theorem fl_of {d : D} {v : V} {p : PyData} (h : RD K ρ H v d) (e : flatQ d = some p) : Fl H v p := by
  cases h with
  | non => cases e; exact .non
  | bl b => cases e; exact .bl b
  | int i => cases e; exact .int i
  | str x => cases e; exact .str x
  | dv h hn hk hl ha =>
    rename_i a kvs ks ds
    cases ks with
    | nil =>
      cases ds with
      | nil =>
        cases e
        cases kvs with
        | nil => exact .dct h
        | cons kv kvs => cases hk
      | cons d ds => cases e
    | cons k ks => cases e
  | _ => cases e
theorem flAll_of : ∀ {ds : List D} {vs : List V} {ps : List PyData}, RDs K ρ H vs ds → mapO flatQ ds = some ps → FlAll H vs ps
  | [], vs, ps, h, e => by
    cases e
    have := h.len
    cases vs with
    | nil => exact .nil
    | cons v vs => simp at this
  | d :: ds, vs, ps, h, e => by
    obtain ⟨y, ys, h1, h2, rfl⟩ := mapO_cons e
    cases vs with
    | nil => have := h.len; simp at this
    | cons v vs => exact .cons (fl_of (h.at_ 0 v d rfl rfl) h1) (flAll_of ⟨by have := h.len; simpa using this, fun i x d' a b => h.at_ (i + 1) x d' a b⟩ h2)
theorem ok_reprG : OkCall K (rReprG K) cReprE := by
  intro ρ H S S' vs ds z Q r hv hg q
  unfold cReprE at hg
  split at hg
  · rename_i x hx
    cases hg
    exact .inl (ok_repr ρ H S _ vs ds _ Q r hv hx q)
  · split at hg
    · rename_i es
      split at hg
      · rename_i ps hp
        split at hg
        · rename_i hc
          cases hg
          obtain ⟨v, rfl, hw⟩ := rds1 hv
          simp only [Bool.and_eq_true, decide_eq_true_eq, sizeP] at hc
          obtain ⟨⟨c1, c3⟩, c4⟩ := hc
          cases hw with
          | vl hs hl ha =>
            exact .inr ⟨_, _, ps, rfl, hs.sq, flAll_of ⟨hl, ha⟩ hp, c1, c3, lim_le c4, q ρ H _ (Ext.refl ρ H) r (.str _)⟩
        · cases hg
      · cases hg
    · cases hg
end
end Lv
namespace Lv
open PySem PySem.Spec PyProof.Rows L2
def keyD : D → Option Key
  | .int i => some (.inl i)
  | .str x => some (.inr x)
  | _ => none
theorem keyD_is {K : PySem.W.Frag} {ρ : List Addr} {H : Hp} {v : V} {d : D} {k : Key} (h : RD K ρ H v d) (e : keyD d = some k) : v = kV k := by
  cases h with
  | int i => cases e; rfl
  | str x => cases e; rfl
  | _ => cases e
def pairsD : List (EF × EF) → Env → Sto → Option (List (Key × D) × Sto)
  | [], _, S => some ([], S)
  | (fk, fv) :: r, env, S => match fk env S with
    | none => none
    | some (dk, S1) => match keyD dk with
      | none => none
      | some k => match fv env S1 with
        | none => none
        | some (d, S2) => match pairsD r env S2 with
          | none => none
          | some (l, S3) => some ((k, d) :: l, S3)
theorem run_pairs {K : PySem.W.Frag} {σ : L2.St} {env : Env} : ∀ {fs : List (EF × EF)} {ρ : List Addr} {H : Hp} {S S' : Sto} {l : List (Key × D)} {R : List (V × V) → Hp → Prop}, Rel K ρ H S → EnvR K ρ H σ env → pairsD fs env S = some (l, S') →
    (∀ ρ' H' (kvs : List (Key × V)), Ext ρ H ρ' H' → Rel K ρ' H' S' → kvs.map (·.1) = l.map (·.1) → RDs K ρ' H' (kvs.map (·.2)) (l.map (·.2)) → R (kvs.map fun kv => (kV kv.1, kv.2)) H') →
    tPairs (fs.map fun p => (tE K p.1, tE K p.2)) σ H R
  | [], ρ, H, S, S', l, R, r, en, hf, q => by
    cases hf
    exact q ρ H [] (Ext.refl ρ H) r rfl .nil
  | (fk, fv) :: fs, ρ, H, S, S', l, R, r, en, hf, q => by
    unfold pairsD at hf
    split at hf
    · cases hf
    · rename_i dk S1 h1
      split at hf
      · cases hf
      · rename_i k hk
        split at hf
        · cases hf
        · rename_i d S2 h2
          split at hf
          · cases hf
          · rename_i l3 S3 h3
            cases hf
            refine run_e r en h1 fun ρ1 H1 v x1 r1 hv en1 => ?_
            obtain rfl := keyD_is hv hk
            refine run_e r1 en1 h2 fun ρ2 H2 y x2 r2 hy en2 => ?_
            refine run_pairs r2 en2 h3 fun ρ3 H3 kvs x3 r3 e3 hs => ?_
            exact q ρ3 H3 ((k, y) :: kvs) ((x1.trans x2).trans x3) r3 (by rw [List.map_cons, List.map_cons, e3]) (.cons (hy.ext r2 x3) hs)
theorem Rel.newDic {K : PySem.W.Frag} {ρ : List Addr} {H : Hp} {S : Sto} (r : Rel K ρ H S) {p : Addr} (hp : H p = none) : Rel K (ρ ++ [p]) (upd H p (.dK [])) (S ++ [.dic [] []]) := by
  have hn := r.notin hp
  have e : Ext ρ H (ρ ++ [p]) (upd H p (.dK [])) := ext_newL hp
  refine ⟨by simp [r.len], ?_, fun n a c h1 h2 => ?_⟩
  · rw [List.nodup_append]
    refine ⟨r.nd, by simp, fun a ha b hb z => ?_⟩
    rw [List.mem_singleton] at hb
    rw [z, hb] at ha
    exact hn ha
  · by_cases hi : n < ρ.length
    · rw [List.getElem?_append_left hi] at h1
      rw [List.getElem?_append_left (by rw [← r.len]; exact hi)] at h2
      refine (r.cell n a c h1 h2).ext r e (upd_ne fun z => hn ?_)
      rw [← z]
      exact List.mem_of_getElem? h1
    · rw [List.getElem?_append_right (by omega)] at h1
      rw [List.getElem?_append_right (by rw [← r.len]; omega), ← r.len] at h2
      have e0 : n - ρ.length = 0 := by
        have := (List.getElem?_eq_some_iff.mp h1).1
        simp at this
        omega
      rw [e0] at h1 h2
      simp at h1 h2
      subst h1; subst h2
      exact ⟨[], upd_same, rfl, .nil⟩
theorem dic_noL {H : Hp} {p : Addr} {kvs : List (Key × V)} (h : H p = some (.dK kvs)) : ¬ IsL H p := by
  rintro (⟨xs, z⟩ | ⟨o, xs, z⟩) <;> rw [h] at z <;> cases z
theorem Rel.mutDic {K : PySem.W.Frag} {ρ : List Addr} {H : Hp} {S : Sto} (r : Rel K ρ H S) {n : Nat} {p : Addr} {kvs kvs0 : List (Key × V)} {ks : List Key} {ds : List D} (hp : ρ[n]? = some p) (h0 : H p = some (.dK kvs0)) (hk : kvs.map (·.1) = ks) (h : RDs K ρ H (kvs.map (·.2)) ds) : Rel K ρ (upd H p (.dK kvs)) (S.set n (.dic ks ds)) := by
  have e : Ext ρ H ρ (upd H p (.dK kvs)) := ext_mutD (List.mem_of_getElem? hp) (dic_noL h0)
  refine ⟨by simp [r.len], r.nd, fun m a c h1 h2 => ?_⟩
  by_cases hm : n = m
  · subst hm
    rw [hp] at h1
    cases h1
    rw [List.getElem?_set_self (by rw [← r.len]; exact (List.getElem?_eq_some_iff.mp hp).1)] at h2
    cases h2
    exact ⟨kvs, upd_same, hk, h.ext r e⟩
  · rw [List.getElem?_set_ne hm] at h2
    refine (r.cell m a c h1 h2).ext r e (upd_ne fun z => hm ?_)
    rw [z] at h1
    obtain ⟨i1, e1⟩ := List.getElem?_eq_some_iff.mp hp
    obtain ⟨i2, e2⟩ := List.getElem?_eq_some_iff.mp h1
    exact (List.getElem_inj r.nd).mp (e1.trans e2.symm)
theorem put_new {κ : Type} [DecidableEq κ] {kvs : List (κ × V)} {k : κ} {v : V} (h : k ∉ kvs.map (·.1)) : putK kvs k v = kvs ++ [(k, v)] := by
  unfold putK
  rw [if_neg]
  rw [List.any_eq_true]
  rintro ⟨kv, h1, h2⟩
  exact h (by rw [← of_decide_eq_true h2]; exact List.mem_map_of_mem h1)
theorem merge_new : ∀ {more kvs : List (Key × V)}, ((kvs ++ more).map (·.1)).Nodup → mergeK kvs more = kvs ++ more
  | [], kvs, _ => by simp [mergeK]
  | kv :: more, kvs, h => by
    have e : mergeK kvs (kv :: more) = mergeK (putK kvs kv.1 kv.2) more := rfl
    have hn : kv.1 ∉ kvs.map (·.1) := by
      intro hm
      rw [List.map_append, List.nodup_append] at h
      exact h.2.2 _ hm _ (by simp) rfl
    rw [e, put_new hn, merge_new (by rw [List.append_assoc]; exact h)]
    simp
def isDn : Option Cell → Bool
  | some (.dic [] []) => true
  | _ => false
theorem isDn_is {c : Option Cell} (h : isDn c = true) : c = some (.dic [] []) := by
  unfold isDn at h
  split at h
  · rfl
  · cases h
def eDisp (fs : List (EF × EF)) : EF := fun env S => match pairsD fs env (S ++ [.dic [] []]) with
  | none => none
  | some (l, S2) => if (l.map (·.1)).Nodup ∧ l.length ≤ 15 ∧ isDn S2[S.length]? = true ∧ OldOk S (S2.set S.length (.dic (l.map (·.1)) (l.map (·.2)))) then (match mapO (fz S.length (S2.set S.length (.dic (l.map (·.1)) (l.map (·.2)))) 20) (l.map (·.2)) with
    | some ds => some (.dv (l.map (·.1)) ds, (S2.set S.length (.dic (l.map (·.1)) (l.map (·.2)))).take S.length)
    | none => none) else none
section
variable {X : Cx} {pos : Pos} {keys : List (Option Expr)} {values : List Expr} {fs : List (EF × EF)}
theorem l_disp (h : PPs X pos keys values (fs.map fun p => (tE X.K p.1, tE X.K p.2))) (hall : keys.all (·.isSome) = true := by rfl) (hl : keys.length = values.length := by rfl) (h0 : keys ≠ [] := by exact List.cons_ne_nil _ _) (h15 : keys.length ≤ 15 := by decide) :
    PE X (.Dict keys values pos) (tE X.K (eDisp fs)) := (pe_disp h hall hl h0 h15).imp fun σ H Q h => by
  obtain ⟨ρ, S, env, d, S', r, en, hf, q⟩ := h
  unfold eDisp at hf
  split at hf
  · cases hf
  · rename_i l S2 h1
    split at hf
    · rename_i hc
      obtain ⟨c1, c2, c3, c4⟩ := hc
      have c3 := isDn_is c3
      split at hf
      · rename_i ds hm
        cases hf
        intro p hp
        have x0 : Ext ρ H (ρ ++ [p]) (upd H p (.dK [])) := ext_newL hp
        refine run_pairs (r.newDic hp) (en.ext r x0) h1 fun ρ2 H2 kvs x2 r2 ek hs => ?_
        obtain ⟨more, rfl⟩ := x2.pre
        have hp2 : ((ρ ++ [p]) ++ more)[S.length]? = some p := by
          rw [List.append_assoc, List.getElem?_append_right (by rw [r.len]; exact Nat.le_refl _), r.len, Nat.sub_self]
          rfl
        obtain ⟨kvs0, k0, k1, _⟩ := r2.cell _ _ _ hp2 c3
        obtain rfl : kvs0 = [] := List.map_eq_nil_iff.mp k1
        have nd : (kvs.map (·.1)).Nodup := by rw [ek]; exact c1
        have r3 := r2.mutDic hp2 k0 ek hs
        have x3 : Ext ((ρ ++ [p]) ++ more) H2 ((ρ ++ [p]) ++ more) (upd H2 p (.dK kvs)) := ext_mutD (List.mem_of_getElem? hp2) (dic_noL k0)
        have x : Ext ρ H ((ρ ++ [p]) ++ more) (upd H2 p (.dK kvs)) := (x0.trans x2).trans x3
        have r4 := rel_take r x r3 c4
        refine ⟨k0, kvs, rfl, ?_, ?_⟩
        · have := congrArg List.length ek
          simp only [List.length_map] at this
          omega
        rw [merge_new (by rw [List.nil_append]; exact nd), List.nil_append]
        refine q ρ _ (.ref p) x.back r4 ?_
        have hs3 := hs.ext r2 x3
        have len2 : (kvs.map (·.2)).length = ds.length := by
          rw [hs3.len, ← mapO_len hm]
        rw [List.append_assoc] at hs3 r3
        refine .dv upd_same (r.notin hp) ek (by simpa using len2) fun i v d' hv hd => ?_
        obtain ⟨d0, e0, e1⟩ := mapO_at hm i d' hd
        have e1 : fz ρ.length (S2.set S.length (.dic (l.map (·.1)) (l.map (·.2)))) 20 d0 = some d' := r.len ▸ e1
        exact fz_rd r3 _ v d0 d' (hs3.at_ i v d0 hv e0) e1
      · cases hf
    · cases hf
end
end Lv
namespace Lv
open PySem PySem.Spec PyProof.Rows L2
section
variable {prog : Program} {w : World} {A : Around} {R : Result → Shared → Prop} {s : Shared} {ce : Expr} {k : Nat} {t : Expr} {ifs : List Expr} {ip : Pos} {it acc : Value} {env : PySem.Env}
end
section
variable (elt t0 i0 t1 i1 t2 i2 : Expr) (f0 f1 f2 : List Expr) (scope : Scope) (pos : Pos) (it acc : Value) (env : PySem.Env)
end
section
variable {B : Cx} {ce tg : Expr} {ifs : List Expr} {k : Nat} {ip : Pos} {acc : Value} {body : Sem Fin} {R : Result → Shared → Prop} {it : Addr} {fp : List Addr} {tn : Nat → Heap → Prop} {J : It} {g : TG} {tt : TT} {P : List (Addr × Obj)} {σb : L2.St} {W : Nat → Nat → Hp → Prop}
end
end Lv
namespace Lv
open PySem PySem.Spec PyProof.Rows L2
section
variable {B : Cx} {ce tg iter : Expr} {ifs : List Expr} {j : Nat} {acc : Value} {body : Value → Sem Fin} {g : TG} {tt : TT} {wi : TI} {P : List (Addr × Obj)}
end
end Lv
namespace Lv
open PySem PySem.Spec PyProof.Rows L2
section
variable {X : Cx} {elt tg iter tg1 iter1 tg2 iter2 : Expr} {ifs ifs1 ifs2 : List Expr} {scope : Scope} {own : List (Str × Nat)} {ws1 ws2 : List Nat} {pos : Pos} {wi wi1 wi2 : TI} {g g1 g2 : TG} {tt tt1 tt2 : TT} {te : TE}
end
end Lv
namespace Lv
open PySem PySem.Spec PyProof.Rows L2
section
variable {K : PySem.W.Frag} {t t1 : Tg} {gc gc1 : TF} {it1 : IFn} {fe : EF} {src : Src} {kC n nI : Nat} {ρ : List Addr} {H : Hp} {S Se : Sto} {σ : L2.St} {env : Env} {J : It} {Da : Addr} {Done : Hp → Prop} {ws ws1 : List Nat}
end
section
variable {X : Cx} {it it1 it2 : IFn} {t t1 t2 : Tg} {gc gc1 gc2 : TF} {fe : EF}
end
end Lv
namespace Lv
open PySem PySem.Spec PyProof.Rows L2
section
variable {X : Cx} {W : WX} {e : Expr} {f : EFX} {pos : Pos} {rm : Bool}
end
end Lv
namespace Lv
open PySem PySem.Spec PyProof.Rows L2 PySem.Froz
section
variable {P : Program} {w : World} {A : Around} {E : Value → Shared → Prop} {s : Shared} {h h' : Heap} {a : Addr} {l : List Str}
def SetT (P : Program) (w : World) (h : Heap) (a : Addr) (l : List Str) : Prop := ∃ D : SD, h.get? a = some (sObj "set" D) ∧ TxOk P w D l ∧ l.Nodup ∧ l.length < scanBound ∧ Ris D.2.2.place.toList ∧ (w.params.followText "set-order" = true ∨ D.2.2.led = true)
theorem SetT.keep (R : SetT P w h a l) (k : ∀ o, h.get? a = some o → h'.get? a = some o) : SetT P w h' a l := by
  obtain ⟨D, e, r⟩ := R
  exact ⟨D, k _ e, r⟩
end
end Lv
namespace Lv
open PySem PySem.Spec PyProof.Rows L2 PySem.Froz
section
variable {P : Program} {w : World} {A : Around} {E : Value → Shared → Prop} {s : Shared}
end
end Lv
namespace Lv
open PySem PySem.Spec PyProof.Rows L2 PySem.Froz
section
variable {P : Program} {w : World} {A : Around} {E : Value → Shared → Prop} {s : Shared}
end
end Lv
namespace Lv
open PySem PySem.Spec PyProof.Rows L2 PySem.Froz
section
variable {X : Cx} {a : Expr} {fa : EF} {pos p p2 q : Pos}
end
end Lv
namespace PySem
namespace XKW
open PySem.W PySem.HandSPX
structure Own (hp : Heap) (c : Addr) (l : List Value) (B mk ini : String) : Prop where
  over : ∃ lB, ExcBaseFacts B mk ini lB ∧ ∀ Y : String, l.contains (.type Y) = lB.contains (.type Y)
  here : ∃ n q N bs hd sn sub ab col dd j0 j1 j2 j3 j5, hp.get? c = some (excClassObj n q c N bs l hd sn sub ab col dd j0 j1 j2 j3 j5 mk)
section
variable {hp : Heap} {c : Addr} {l vs : List Value} {B mk ini : String} {ks : List (Str × Value)} {G : Array GenState} {D : Drawn} {n : Nat} {o : OsState}
theorem Own.has (Y : String) {lB : List Value} (same : ∀ Y : String, l.contains (.type Y) = lB.contains (.type Y)) : (Value.ref c :: l).contains (.type Y) = lB.contains (.type Y) := by
  rw [List.contains_cons, same]
  rfl
section
variable {M : Model} {A : Around} {no : Value → Shared → Prop}
theorem Own.let_in {yes : Unit → Shared → Prop} (w : Own hp c l B mk ini) (q : yes () ⟨hp, G, D, n, o⟩) :
    wpAny M A (checkBuiltinCall mk ⟨.ref c :: vs, ks⟩) yes no ⟨hp, G, D, n, o⟩ := by
  obtain ⟨⟨lB, F, same⟩, _, _, _, _, _, _, _, _, _, _, _, _, _, _, _, at_⟩ := w
  have mem : (Value.ref c :: l).contains (.type B) = true := (Own.has B same).trans F.hasB
  have st := F.noStar
  simp only [F.newRow, F.newKind, F.newSplit, checkBuiltinCall]
  repeat (first
    | refine wpAny_madeBy_exc at_ ?_
    | refine wpAny_staticBase_exc at_ ?_
    | (refine wpAny_isSubtype_exc at_ ?_
       rw [mem])
    | refine wpAny_loadPart_at at_ ?_
    | simp only [if_false, Bool.false_eq_true, bne_self_eq_false]
    | wp_step)
  exact q
end
section
variable {P : Program} {wd : World} {A : Around}
abbrev top (hp : Heap) (c : Addr) (vs : List Value) : Heap := (hp.push (PySem.W.kdv_tup vs)).push (excO c hp.objs.size)
theorem top_old {b : Addr} {x : Obj} (e : hp.get? b = some x) : (top hp c vs).get? b = some x :=
  Heap.get?_push_of_some _ (Heap.get?_push_of_some _ e)
theorem top_new : (top hp c vs).get? (hp.objs.size + 1) = some (excO c hp.objs.size) := by
  heap_get
theorem Own.makes {R : Result → Shared → Prop} (w : Own hp c l B mk ini) (few : vs.length ≤ sizeLine) (q : R (.ok (.ret (.ref (hp.objs.size + 1)))) ⟨top hp c vs, G, D, n, o⟩) :
    codeAny (model P wd) A (.builtin mk ⟨.ref c :: vs, ks⟩) R ⟨hp, G, D, n, o⟩ := by
  obtain ⟨⟨lB, F, same⟩, _, _, _, _, _, _, _, _, _, _, _, _, _, _, _, at_⟩ := w
  have en := F.ends
  have m1 : (Value.ref c :: l).contains (.type B) = true := (Own.has B same).trans F.hasB
  have m2 : (Value.ref c :: l).contains (.type "AttributeError") = false := (Own.has "AttributeError" same).trans F.noAttr
  have m3 : (Value.ref c :: l).contains (.type "NameError") = false := (Own.has "NameError" same).trans F.noName
  apply codeAny_builtinAt F.entry
  delta Builtin.«BaseException.__new__»
  apply wpAt_bind
  change wpAt _ _ _ (Sem.bind stack _) _ _ _
  apply wpAt_bind
  apply wpAt_stack
  intro below more
  apply wpAt_of_wpAny
  wp_walk
  apply wpAt_of_wpAny
  rw [F.owner]
  repeat (first
    | (with_reducible refine wpAny_isSubtype_exc at_ ?_
       first | rw [m1] | rw [m2] | rw [m3])
    | with_reducible refine wpAny_loadPart_at at_ ?_
    | with_reducible refine wpAny_madeHere_exc F.canon at_ ?_
    | wp_step)
  have sz := Heap.size_push hp (PySem.W.kdv_tup vs)
  change R (.ok (.ret (.ref (hp.push (PySem.W.kdv_tup vs)).objs.size))) _
  rw [sz]
  exact q
theorem Own.called {R : Result → Shared → Prop} {ini' : Addr} (w : Own hp c l B mk ini) (few : vs.length ≤ sizeLine) (li : W.Looks (model P wd) hp (typeLookup (.ref c) "__init__") (some (.ref ini')))
    (lb : ∀ me, W.Looks (model P wd) hp (bindSpecial (.ref ini') me) (.ref ini', [me]))
    (q : codeAny (model P wd) (A.under (.builtin "type.__call__" ⟨.ref c :: vs, ks⟩)) (.call (.ref ini') ⟨.ref (hp.objs.size + 1) :: vs, ks⟩) (W.InitBack (hp.objs.size + 1) R) ⟨top hp c vs, G, D, n, o⟩) :
    codeAny (model P wd) A (.call (.ref c) ⟨vs, ks⟩) R ⟨hp, G, D, n, o⟩ := by
  have w' := w
  obtain ⟨⟨lB, F, same⟩, _, _, _, _, _, _, _, _, _, _, _, _, _, _, _, at_⟩ := w
  have t1 := tc_lookup
  have t2 := tc_bind (.ref c)
  have ty : Shared.TypeIs ⟨hp, G, D, n, o⟩ (.ref c) "type" := ⟨_, at_, rfl⟩
  apply codeAny_of_tree
  change wpAny _ _ (callAny (.ref c) _) _ _ _
  repeat (any_goals (first
    | with_reducible refine wpAny_loadPart_at at_ ?_
    | assumption
    | wp_step))
  refine And.intro rfl ?_
  apply codeAny_call_builtin_at (Code.quiet_builtin _ (by decide +kernel)) entry_typeCall
  apply wpAny_check_type_call_sub at_
  repeat (first
    | with_reducible refine wpAny_madeBy_exc at_ ?_
    | with_reducible refine wpAny_loadPart_at at_ ?_
    | wp_step)
  apply codeAny_call_builtin_code (Code.quiet_builtin _ F.quiet) (w'.let_in _)
  apply w'.makes few
  change wpAny _ _ _ _ _ _
  have at2 := top_old (c := c) (vs := vs) at_
  have new := top_new (hp := hp) (c := c) (vs := vs)
  have me : (Value.ref c :: l).contains (.ref c) = true := by
    rw [List.contains_cons, beq_self_eq_true, Bool.true_or]
  have li' := li.keeps fun _ _ e => top_old (c := c) (vs := vs) e
  have lb' := (lb (.ref (hp.objs.size + 1))).keeps fun _ _ e => top_old (c := c) (vs := vs) e
  delta isInstance
  repeat (first
    | (with_reducible refine wpAny_isSubtype_exc at2 ?_
       rw [me])
    | with_reducible refine wpAny_loadPart_at new ?_
    | wp_step)
  change wpAny _ _ (typeLookup (.ref c) _) _ _ _
  apply li'.at
  apply wpAny_holding
  apply wpAny_bind
  apply lb'.at
  apply wpAny_bind
  apply wpAny_call
  refine codeAny_mono q ?_
  intro res s2 e
  match res, e with
  | .error _, e => exact e
  | .ok .next, e => exact False.elim e
  | .ok .brk, e => exact False.elim e
  | .ok .cont, e => exact False.elim e
  | .ok (.ret _), e =>
    obtain ⟨rfl, e⟩ := e
    first
      | exact wpAny_pure (wpAny_pure e)
      | wp_walk
        exact e
end
end
end XKW
end PySem

namespace Lv
open PySem PySem.Spec PyProof.Rows L2
def KwV (K : PySem.W.Frag) (fd : FuncData) : Prop := ∀ (s : Shared) (u v : Value), K.In s.heap → BindsTo s fd ⟨[u], [("value", v)]⟩ [("self", u), ("value", v)]
theorem FunN.kw {K : PySem.W.Frag} {x qual : Str} {st : Stmt} {f : Addr} {fd : FuncData} (F : FunN K x qual st f fd)
    (h : ∀ (T : Addr) (kV doc pm : Value) (an : Option Addr) (cdv ct : Value) (u v : Value) (its : List Value), its.length = 1 →
      ∃ k, bindArgs (PySem.W.fnOf x qual (defArgs st) (defBody st) (defScope st) (.ref T) kV doc pm an cdv ct) ⟨[u], [("value", v)]⟩ = seqItems? (.ref T) >>= k ∧ k (some its.toArray) = pure ([("self", u), ("value", v)] : List (Str × Value))) : KwV K fd := by
  obtain ⟨_, _, _, kV, doc, pm, an, cdv, ct, _, rfl, _, _, two, _⟩ := F.ex
  obtain ⟨bad, _⟩ | ⟨_, T, ob, its, m, rfl, at_, dat, vals⟩ := two
  · cases bad
  · intro s u v here
    obtain ⟨go, e1, e2⟩ := h T kV doc pm an cdv ct u v its vals.length.symm
    apply BindsTo.of_looks
    intro M
    rw [e1]
    exact looks_items here at_ dat (PySem.W.Looks.of_pure e2)
structure ErrD (P : Program) (w : World) (K : PySem.W.Frag) (mg : Str → Option Value) (base : Heap) (n : Str) : Prop where
  ex : ∃ (C fI : Addr) (fd : FuncData), GA K n C ∧ mg n = some (.ref C) ∧ OexC K C ∧ PySem.W.findIn K (.ref C) "value" = some none ∧ PySem.W.findIn K (.ref C) "__init__" = some (some (.ref fI)) ∧ PySem.W.typeIn K (.ref fI) = some (.type "function") ∧
    Binds K fd ["self", "value"] [] ∧ FnOk P w K mg base CX0 1 fI fd ["self", "value"] (spI K) ∧ Binds K fd ["self", "value"] [Value.none] ∧ KwV K fd
structure ErrO (K : PySem.W.Frag) (mg : Str → Option Value) (n : Str) : Prop where
  ex : ∃ (C : Addr) (bmB : List Value), GA K n C ∧ mg n = some (.ref C) ∧ ExcBaseFacts "ValueError" "ValueError.__new__" "ValueError.__init__" bmB ∧ PySem.W.excIn K C bmB "ValueError.__new__" = true ∧ PySem.W.keepIn K (.ref C) = true ∧
    PySem.W.subIn K (.ref C) (.type "BaseException") = some true ∧ PySem.W.typeIn K (.ref C) = some (.type "type")
theorem errD_mk {P : Program} {w : World} {K : PySem.W.Frag} {mg : Str → Option Value} {base : Heap} {n : Str} {C fI : Addr} {fd : FuncData} (gC : GA K n C) (mC : mg n = some (.ref C)) (oC : OexC K C) (vC : PySem.W.findIn K (.ref C) "value" = some none) (iC : PySem.W.findIn K (.ref C) "__init__" = some (some (.ref fI))) (tI : PySem.W.typeIn K (.ref fI) = some (.type "function"))
    (hb : Binds K fd ["self", "value"] []) (F : FnOk P w K mg base CX0 1 fI fd ["self", "value"] (spI K)) (hd : Binds K fd ["self", "value"] [Value.none]) (hk : KwV K fd) : ErrD P w K mg base n := ⟨C, fI, fd, gC, mC, oC, vC, iC, tI, hb, F, hd, hk⟩
theorem errO_mk {K : PySem.W.Frag} {mg : Str → Option Value} {n : Str} {C : Addr} {bmB : List Value} (F : ExcBaseFacts "ValueError" "ValueError.__new__" "ValueError.__init__" bmB) (gC : GA K n C) (mC : mg n = some (.ref C)) (q : PySem.W.excIn K C bmB "ValueError.__new__" = true) (k : PySem.W.keepIn K (.ref C) = true)
    (e : PySem.W.subIn K (.ref C) (.type "BaseException") = some true) (y : PySem.W.typeIn K (.ref C) = some (.type "type")) : ErrO K mg n := ⟨C, bmB, gC, mC, F, q, k, e, y⟩
def exQ (a C : Addr) : Option Addr → HO
  | some d => ExK a C d
  | none => ExN a C
theorem exQ_ok {P : Program} {w : World} {H : Hp} {h : Heap} {a C : Addr} {d : Option Addr} {oe : Obj} {vs : Array Value} (ha : h.get? a = some oe) (h1 : oe.cls = .ref C) (h2 : oe.dict = d) (h3 : oe.data = .fields vs) : ObjOk P w H h a (exQ a C d) := by
  cases d with
  | some d => exact ⟨⟨oe, vs, ha, h1, h2, h3⟩, ⟨_, ha⟩, fun g1 g2 z k => by
      obtain ⟨o, ws, q, q1, q2, q3⟩ := z
      exact ⟨o, ws, k _ q, q1, q2, q3⟩⟩
  | none => exact ⟨⟨oe, vs, ha, h1, h2, h3⟩, ⟨_, ha⟩, fun g1 g2 z k => by
      obtain ⟨o, ws, q, q1, q2, q3⟩ := z
      exact ⟨o, ws, k _ q, q1, q2, q3⟩⟩
theorem upd_not {H : Hp} {a b : Addr} {o : HO} {u : HO} (hid : H a = none) (e : H b = some u) : upd H a o b = some u := by
  rw [upd_ne, e]
  intro z
  rw [z, hid] at e
  cases e
theorem unN {fs ex : List Addr} {H : Hp} {h h' : Heap} {a : Addr} {o : HO} (old : ∀ b u, h.get? b = some u → h'.get? b = some u) (gone : h.get? a = none) (hid : H a = none) : Un fs ex H (upd H a o) h h' := by
  refine ⟨?_, ?_, ?_, ?_, ?_, ?_, ?_⟩
  · intro b u e _ _ _
    exact old b u e
  · intro b u e _ _ _
    exact ⟨_, old b u e⟩
  · intro b u e free _
    have far : b ≠ a := by
      rintro rfl
      rw [gone] at e
      cases e
    rw [upd_ne far]
    exact free
  · intro b u e _
    exact ⟨_, old b u e⟩
  · exact fun b xs e => upd_not hid e
  · exact fun b x xs e => upd_not hid e
  · intro b ps e
    refine ⟨#[], ?_⟩
    rw [upd_not hid e]
    simp
theorem hokN {P : Program} {w : World} {H : Hp} {h h' : Heap} {a : Addr} {o : HO} (ok : HOk P w H h) (old : ∀ b u, h.get? b = some u → h'.get? b = some u) (hid : H a = none) (its : ObjOk P w (upd H a o) h' a o) : HOk P w (upd H a o) h' := by
  intro b u e
  by_cases same : b = a
  · rw [same] at e ⊢
    rw [upd_same] at e
    exact (Option.some.inj e) ▸ its
  · rw [upd_ne same] at e
    refine (ok b u e).stay ?_ ?_ ?_
    · exact fun c v _ e => old c v e
    · exact fun c e => upd_not hid e
    · exact fun c xs e => upd_not hid e
section
variable {X : Cx} {e : Expr} {es : List Expr} {n x : Str} {fs : AF} {p pos : Pos} {kws : List Keyword}
def tMkE (t : L2.St → Hp → XK → Prop) : TE := fun σ H Q => t σ H fun cls d H' => ∃ C : Addr, cls = .ref C ∧ ∀ a, H' a = none → Q (.ref a) (upd H' a (exQ a C d))
theorem pe_mk {t : L2.St → Hp → XK → Prop} (h : PMk X e t) : PE X e (tMkE t) := ⟨fun pins s σ H Q I q => thn (h pins s σ H _ I q) fun u s1 hu => by
  obtain ⟨a, oe, vs, sI, H', cls, d, rfl, J, k, hne, ha, hz, hd, h1, na, os, ag, r, C, rfl, q⟩ := hu
  exact ⟨.ref a, _, J.call' (ch := []) os (unN k hne na) (hokN J.hok k na (exQ_ok ha hz.1 hz.2 hd)) ag (fun b z => absurd z (by simp)), rfl, q a na⟩⟩
theorem mk_val {pins : List (Addr × Obj)} {σ : L2.St} {H1 : Hp} {Q : XK} {s1 : Shared} {us : List Value} {kw : List (Str × Value)} {u1 : Value} {v1 : V} {C fI : Addr} {fd : FuncData} (T : OexC X.K C) (vC : PySem.W.findIn X.K (.ref C) "value" = some none) (iC : PySem.W.findIn X.K (.ref C) "__init__" = some (some (.ref fI))) (tI : PySem.W.typeIn X.K (.ref fI) = some (.type "function"))
    (F1 : FnOk X.prog X.w X.K X.mg X.base CX0 1 fI fd ["self", "value"] (spI X.K)) (hr : Room 2 X.A) (bnd : ∀ (s : Shared) (self : Value), X.K.In s.heap → BindsTo s fd ⟨self :: us, kw⟩ ((["self", "value"] : List Str).zip [self, u1])) (hus : us.length ≤ sizeLine) (I1 : Inv X pins σ H1 s1) (rv : RelV v1 u1)
    (hq : ∀ dx, H1 dx = none → Q (.ref C) (some dx) (upd H1 dx (.xd [("value", v1)]))) : wpAny (model X.prog X.w) X.A (call (.ref C) us kw) (MkP X pins σ Q) X.xe s1 := by
  obtain ⟨_, _, _, _, l, _, _, _, _, _, _, _, _, _, _, at_, ord⟩ := T.cls
  obtain ⟨hp, G, D, tk, os⟩ := s1
  have own : PySem.XKW.Own hp C l "ValueError" "ValueError.__new__" "ValueError.__init__" :=
    ⟨⟨_, F.excBase_ValueError, fun Y => PySem.HandSPX.refsVE_contains Y l ord⟩, _, _, _, _, _, _, _, _, _, _, _, _, _, _, _, I1.kIn _ _ at_⟩
  have above : hp.objs.size ≤ hp.objs.size + 1 := by omega
  have free : H1 (hp.objs.size + 1) = none := I1.hok.fresh above
  have J : Inv X pins σ (upd H1 (hp.objs.size + 1) (exo (hp.objs.size + 1) C none)) ⟨PySem.XKW.top hp C us, G, D, tk, os⟩ :=
    I1.laid (t' := tk) (fun _ _ e => PySem.XKW.top_old e) above (exo_ok PySem.XKW.top_new)
  have two : Vals [V.ref (hp.objs.size + 1), v1] [Value.ref (hp.objs.size + 1), u1] := .cons rfl (.cons rv .nil)
  have does : spI X.K [V.ref (hp.objs.size + 1), v1] (upd H1 (hp.objs.size + 1) (exo (hp.objs.size + 1) C none))
      (fun v H2 => v = .non ∧ ∃ (d : Addr) (fs : List (Str × V)), H2 (hp.objs.size + 1) = some (exo (hp.objs.size + 1) C (some d)) ∧ H2 d = some (exd d fs) ∧ H1 d = none ∧ Q (.ref C) (some d) (upd (del H2 (hp.objs.size + 1)) d (.xd fs))) (fun _ _ _ => False) := by
    refine ⟨_, C, v1, rfl, T, vC, upd_same, fun dx nd ne => ⟨rfl, dx, [("value", v1)], upd_same, ?_, ?_, ?_⟩⟩
    · rw [upd_ne ne, upd_same]
    · rw [upd_ne ne] at nd
      exact nd
    · rw [upd_ne ne] at nd
      rw [ext_raise free nd ne]
      exact hq dx nd
  apply wpAny_call
  apply own.called hus (PySem.W.looks_findIn I1.kIn iC) (fun me => PySem.W.bind_fn I1.kIn me tI)
  refine codeAny_mono (F1.run _ X.stack _ _ _ [Value.ref (hp.objs.size + 1), u1] _ _ (fun _ _ _ => False) (hr.make C us kw) (J.env0.make C us kw) (bnd _ _ J.kIn) two does) ?_
  intro res s2 e
  match res, e with
  | .error _, e => exact e.elim
  | .ok .next, e => exact e.elim
  | .ok .brk, e => exact e.elim
  | .ok .cont, e => exact e.elim
  | .ok (.ret u), e =>
    obtain ⟨w, H2, same, bare, un, ok, rw_, rfl, d, fs, a1, a2, a3, q2⟩ := e
    exact ⟨rw_, mk_end (raises_own T.exC T.tyC) I1 above (fun _ _ e => PySem.XKW.top_old e) un ok same bare a1 a2 a3 q2⟩
def eMk (n : Str) (fs : AF) : EF := fun env S => match fs env S with
  | some ([v], S1) => some (.exc n v, S1)
  | _ => none
def eMk0 (n : Str) : EF := fun _ S => some (.exc n .non, S)
def eMkN (n : Str) (fs : AF) : EF := fun env S => match fs env S with
  | some (ds, S1) => if ds.length ≤ 100 then some (.exc n (.ty "#"), S1) else none
  | none => none
theorem mk_rd {ρ : List Addr} {H1 : Hp} {S1 : Sto} {C a dx : Addr} {v : V} {d : D} (g : GA X.K n C) (r : Rel X.K ρ H1 S1) (hx : RD X.K ρ H1 v d) (nd : H1 dx = none) (na : (upd H1 dx (.xd [("value", v)])) a = none) :
    Ext ρ H1 ρ (upd (upd H1 dx (.xd [("value", v)])) a (ExK a C dx)) ∧ Rel X.K ρ (upd (upd H1 dx (.xd [("value", v)])) a (ExK a C dx)) S1 ∧ RD X.K ρ (upd (upd H1 dx (.xd [("value", v)])) a (ExK a C dx)) (.ref a) (.exc n d) := by
  have e1 := ext_new (ρ := ρ) (o := .xd [("value", v)]) nd
  have r1 := r.newT (o := .xd [("value", v)]) nd
  have e2 := ext_new (ρ := ρ) (o := ExK a C dx) na
  have r2 := r1.newT (o := ExK a C dx) na
  have hne : dx ≠ a := fun z => by
    rw [← z, upd_same] at na
    cases na
  exact ⟨e1.trans e2, r2, .exc g upd_same (by rw [upd_ne hne, upd_same]) (r1.notin na) (r.notin nd) rfl ((hx.ext r e1).ext r1 e2)⟩
theorem l_mk (T : ErrD X.prog X.w X.K X.mg X.base n) (hr : Room 2 X.A) (hg : Gl X n) (ha : PA X (e :: es) (tA X.K fs))
    (hdb : (n == ("__debug__" : Str)) = false := by decide) (he : starEach (e :: es) X.env = (false, eval e X.env) :: starEach es X.env := by rfl) (hpl : (backTo pos (starEach es X.env)).any (·.1) = false := by rfl) :
    PE X (.Call (.Name n p) (e :: es) [] pos) (tE X.K (eMk n fs)) := by
  obtain ⟨C, fI, fd, gC, mC, oC, vC, iC, tI, hb, F, _, _⟩ := T.ex
  have P : PMk X (.Call (.Name n p) (e :: es) [] pos) (fun σ H Q => tA X.K fs σ H fun vs H1 => ∃ v, vs = [v] ∧ ∀ dx, H1 dx = none → Q (.ref C) (some dx) (upd H1 dx (.xd [("value", v)]))) := by
    intro pins s σ H Q I h
    refine wpAny_Call_Name_kw (ld_glob I hg mC ?_ hdb)
    refine PySem.W.callWith_K (h₀ := X.base) I.ok.mod.kin oC.kC (thn (ha.run pos pins s σ H _ I h) fun us s1 ⟨vs, H1, I1, r1, v, ev, q1⟩ => ⟨I1.kIn, ?_⟩) he hpl
    subst ev
    cases r1 with
    | @cons _ u _ ur ru rn =>
      cases rn
      exact mk_val oC vC iC tI F hr (fun s self K => hb s [self, u] K rfl) (by show 1 ≤ sizeLine; decide) I1 ru q1
  refine (pe_mk P).imp fun σ H Q h => ?_
  obtain ⟨ρ, S, env, o, S', r, en, hf, q⟩ := h
  unfold eMk at hf
  split at hf
  · rename_i v S1 h1
    cases hf
    refine run_a r en h1 fun ρ1 H1 vs x1 r1 hv en1 => ?_
    obtain ⟨x, rfl, hx⟩ := rds1 hv
    refine ⟨x, rfl, fun dx nd => ⟨C, rfl, fun a na => ?_⟩⟩
    obtain ⟨e2, r2, v2⟩ := mk_rd gC r1 hx nd na
    exact q ρ1 _ _ (x1.trans e2) r2 v2
  · cases hf
theorem l_mk0 (T : ErrD X.prog X.w X.K X.mg X.base n) (hr : Room 2 X.A) (hg : Gl X n) (hdb : (n == ("__debug__" : Str)) = false := by decide) :
    PE X (.Call (.Name n p) [] [] pos) (tE X.K (eMk0 n)) := by
  obtain ⟨C, fI, fd, gC, mC, oC, vC, iC, tI, _, F, hb, _⟩ := T.ex
  have P : PMk X (.Call (.Name n p) [] [] pos) (fun σ H Q => ∀ dx, H dx = none → Q (.ref C) (some dx) (upd H dx (.xd [("value", V.non)]))) := by
    intro pins s σ H Q I h
    refine wpAny_Call_Name_kw (ld_glob I hg mC ?_ hdb)
    refine PySem.W.callWith_K0 I.kIn oC.kC ?_
    exact mk_val oC vC iC tI F hr (fun s self K => hb s [self] K rfl) (by show 0 ≤ sizeLine; decide) I (show RelV V.non Value.none from rfl) h
  refine (pe_mk P).imp fun σ H Q h => ?_
  obtain ⟨ρ, S, env, o, S', r, en, hf, q⟩ := h
  unfold eMk0 at hf
  cases hf
  intro dx nd
  refine ⟨C, rfl, fun a na => ?_⟩
  obtain ⟨e2, r2, v2⟩ := mk_rd gC r .non nd na
  exact q ρ _ _ e2 r2 v2
theorem l_mkK {fk : AF} (T : ErrD X.prog X.w X.K X.mg X.base n) (hr : Room 2 X.A) (hg : Gl X n) (hkw : PK X kws (tA X.K fk)) (hdb : (n == ("__debug__" : Str)) = false := by decide)
    (hall : (backToKw pos (keywordEach kws X.env)).all (·.1.isSome) = true := by rfl) (hks : (backToKw pos (keywordEach kws X.env)).filterMap (·.1) = [("value" : Str)] := by rfl)
    (hpl : ((backTo pos (starEach [] X.env)).any (·.1) || (backToKw pos (keywordEach kws X.env)).any (·.1.isNone)) = false := by rfl) :
    PE X (.Call (.Name n p) [] kws pos) (tE X.K (eMk n fk)) := by
  obtain ⟨C, fI, fd, gC, mC, oC, vC, iC, tI, _, F, _, hb⟩ := T.ex
  have P : PMk X (.Call (.Name n p) [] kws pos) (fun σ H Q => tA X.K fk σ H fun vs H1 => ∃ v, vs = [v] ∧ ∀ dx, H1 dx = none → Q (.ref C) (some dx) (upd H1 dx (.xd [("value", v)]))) := by
    intro pins s σ H Q I h
    refine wpAny_Call_Name_kw (ld_glob I hg mC ?_ hdb)
    refine PySem.W.callWith_KW0 (h₀ := X.base) I.ok.mod.kin oC.kC hall (thn (hkw.run pos pins s σ H _ I h) fun us s1 ⟨vs, H1, I1, r1, v, ev, q1⟩ => ⟨I1.kIn, ?_⟩) hpl
    subst ev
    rw [hks]
    cases r1 with
    | @cons _ u _ ur ru rn =>
      cases rn
      exact mk_val (us := []) oC vC iC tI F hr (fun s self K => hb s self u K) (by show 0 ≤ sizeLine; decide) I1 ru q1
  refine (pe_mk P).imp fun σ H Q h => ?_
  obtain ⟨ρ, S, env, o, S', r, en, hf, q⟩ := h
  unfold eMk at hf
  split at hf
  · rename_i v S1 h1
    cases hf
    refine run_a r en h1 fun ρ1 H1 vs x1 r1 hv en1 => ?_
    obtain ⟨x, rfl, hx⟩ := rds1 hv
    refine ⟨x, rfl, fun dx nd => ⟨C, rfl, fun a na => ?_⟩⟩
    obtain ⟨e2, r2, v2⟩ := mk_rd gC r1 hx nd na
    exact q ρ1 _ _ (x1.trans e2) r2 v2
  · cases hf
theorem l_mkN (T : ErrO X.K X.mg n) (hg : Gl X n) (ha : PA X (e :: es) (tA X.K fs))
    (hdb : (n == ("__debug__" : Str)) = false := by decide) (he : starEach (e :: es) X.env = (false, eval e X.env) :: starEach es X.env := by rfl) (hpl : (backTo pos (starEach es X.env)).any (·.1) = false := by rfl) :
    PE X (.Call (.Name n p) (e :: es) [] pos) (tE X.K (eMkN n fs)) := by
  obtain ⟨C, bmB, gC, mC, F, q, kC, sC, tC⟩ := T.ex
  refine (pe_mk (pmk_ownA F q mC kC (raises_own sC tC) hg ha hdb he hpl)).imp fun σ H Q h => ?_
  obtain ⟨ρ, S, env, o, S', r, en, hf, q⟩ := h
  unfold eMkN at hf
  split at hf
  · rename_i ds S1 h1
    split at hf
    · rename_i hl
      cases hf
      refine run_a r en h1 fun ρ1 H1 vs x1 r1 hv en1 => ?_
      refine ⟨?_, C, rfl, fun a na => ?_⟩
      · rw [hv.len, sizeLine_eq]
        omega
      · exact q ρ1 _ _ (x1.trans (ext_new na)) (r1.newT na) (.excN gC upd_same (r1.notin na))
    · cases hf
  · cases hf
theorem l_mkN0 (T : ErrO X.K X.mg n) (hg : Gl X n) (hdb : (n == ("__debug__" : Str)) = false := by decide) :
    PE X (.Call (.Name n p) [] [] pos) (tE X.K (eMkN n aNil)) := by
  obtain ⟨C, bmB, gC, mC, F, q, kC, sC, tC⟩ := T.ex
  have P : PMk X (.Call (.Name n p) [] [] pos) (fun σ H Q => Q (.ref C) none H) := by
    intro pins s σ H Q I h
    refine wpAny_Call_Name_kw (ld_glob I hg mC ?_ hdb)
    refine PySem.W.callWith_K0 I.kIn kC ?_
    obtain ⟨bm, N, nm, qn, bs, hdct, sn, sub, ab, col, dd, k0, k1, k2, k3, k5, mN, hC, hN, hni, T⟩ := exc_obj I.kIn q
    refine wpAny_call_exc_subT F T hC hN hni (fun h' e hm => ?_) (by show 0 ≤ sizeLine; decide)
    exact mk_of I hm (raises_own sC tC) h (I.hok.gone hm.new)
  refine (pe_mk P).imp fun σ H Q h => ?_
  obtain ⟨ρ, S, env, o, S', r, en, hf, q⟩ := h
  cases hf
  refine ⟨C, rfl, fun a na => ?_⟩
  exact q ρ _ _ (ext_new na) (r.newT na) (.excN gC upd_same (r.notin na))
end
end Lv
namespace Lv
open PySem PySem.Spec PyProof.Rows L2
def txt1 (k : Str) (i : Int) : Str := dictText [(PyData.str k).shown ++ ": " ++ (PyData.int i).shown]
def cond1 (k : Str) (i : Int) : Bool := (PyData.int i).showable && decide ((PyData.str k).shown.length ≤ lim) && decide ((txt1 k i).length ≤ lim)
def rRepr1 (K : PySem.W.Frag) : List V → Hp → VK → Prop := fun xs H Q => ∃ (a : Addr) (k : Str) (i : Int), xs = [.ref a] ∧ H a = some (.dK [(.inr k, .int i)]) ∧ cond1 k i = true ∧ Q (.str (txt1 k i)) H
theorem call_repr1 {X : Cx} (hG : X.A.guards = some []) (hu : X.A.units + 64 < cLine) : CallR X (.builtin "repr") (rRepr1 X.K) := by
  intro pins s σ H xs us Q I rv h
  obtain ⟨a, k, i, rfl, ha, hc, q⟩ := h
  cases rv with
  | cons r1 rn =>
    rename_i u us'
    cases rn
    obtain rfl : u = Value.ref a := r1
    obtain ⟨_, hs, vs, rk, o, es, ep, ho, ⟨hcl, hdn⟩, hd, _, hp, _⟩ := (show ObjOk X.prog X.w H s.heap a (.dK [(.inr k, .int i)]) from I.hok a _ ha)
    simp only [cond1, Bool.and_eq_true, decide_eq_true_eq] at hc
    obtain ⟨⟨c1, c2⟩, c3⟩ := hc
    have hE : ReprEntriesK X.prog X.w [] s.heap 0 es.toList [(PyData.str k).shown ++ ": " ++ (PyData.int i).shown] := by
      match vs, rk, hp with
      | [(k1, u1)], .cons r1 .nil, hp =>
        obtain ⟨e1, t2, e2⟩ := r1
        dsimp only at e1 e2
        subst e1 e2
        cases hl : es.toList with
        | nil => rw [hl] at hp; cases hp
        | cons b bs =>
          rw [hl] at hp
          cases hp with
          | cons p1 p2 p3 =>
            cases p3
            rcases keyIs_shape (k := .inr k) (v := b.key) p1 with ⟨i', t, z, _⟩ | ⟨x, t, z, e⟩
            · cases z
            · cases z
              refine .cons ?_ ?_ .nil
              · rw [e]
                simp only [PyData.shown]
                exact .of_is (ReprIs.str k t (by simpa only [PyData.shown] using lim_le c2)) _ _ _
              · rw [p2]
                simp only [PyData.shown]
                exact .of_is (ReprIs.int t2 (by simpa [PyData.showable] using c1)) _ _ _
    refine call_repr_slot (by omega) (⟨o, ho, hcl⟩ : s.TypeIs (.ref a) "dict") F.slot_dict_repr ?_
    have hQ : ∀ h' u tk, (∀ b o, s.heap.get? b = some o → h'.get? b = some o) → (fun r s₁ => ∃ x t, r = Value.str x t ∧ EP X pins σ Q r s₁) (.str (txt1 k i) u) { s with heap := h', toks := tk } := fun h' u tk k => ⟨_, _, rfl, .str _, H, I.kept k, ⟨u, rfl⟩, q⟩
    exact call_dict_reprK ho hcl hd hs (by simp) hE hG (fun b _ => Clear.nil b) (by show X.A.units + 1 + (0 + 1) < cLine; omega) (fun _ _ e => e) hQ (lim_le c3)
def rReprW (K : PySem.W.Frag) : List V → Hp → VK → Prop := fun xs H Q => rReprG K xs H Q ∨ rRepr1 K xs H Q
theorem call_reprW {X : Cx} (hG : X.A.guards = some []) (hu : X.A.units + 64 < cLine) : CallR X (.builtin "repr") (rReprW X.K) := CallR.or (call_reprG hG hu) (call_repr1 hG hu)
def cReprW : CF := fun ds S => match cReprE ds S with
  | some r => some r
  | none => (match ds with
    | [.dv [.inr k] [.int i]] => if cond1 k i then some (.str (txt1 k i), S) else none
    | _ => none)
theorem ok_reprW {K : PySem.W.Frag} : OkCall K (rReprW K) cReprW := by
  intro ρ H S S' vs ds z Q r hv hg q
  unfold cReprW at hg
  split at hg
  · rename_i x hx
    cases hg
    exact .inl (ok_reprG ρ H S _ vs ds _ Q r hv hx q)
  · split at hg
    · rename_i k i _
      split at hg
      · rename_i hc
        cases hg
        obtain ⟨v, rfl, hw⟩ := rds1 hv
        cases hw with
        | dv h hn hk hl ha =>
          rename_i a kvs
          match kvs, hk, hl, ha, h with
          | [(k', x)], hk, hl, ha, h =>
            have e1 : k' = .inr k := by simpa using hk
            subst e1
            have hx := ha 0 x (.int i) rfl rfl
            cases hx
            exact .inr ⟨a, k, i, rfl, h, hc, q ρ H _ (Ext.refl ρ H) r (.str _)⟩
      · cases hg
    · cases hg
def rEq1 (K : PySem.W.Frag) : R2 := fun x y H Q => ∃ a b kvs, x = .ref a ∧ y = .ref b ∧ H a = some (.dK kvs) ∧ H b = some (.dK kvs) ∧ (kvs.map (·.1)).Nodup ∧ (∀ p ∈ kvs, flatB p.2 = true) ∧ Q (.bl true) H
def rEqW (K : PySem.W.Frag) : R2 := fun x y H Q => rEqA K x y H Q ∨ rEq1 K x y H Q
def gEqW : OF := fun x y S => match x, y with
  | .dv [.inr k] [.int i], .dv [.inr l] [.int j] => if k = l ∧ i = j then some (.bl true, S) else none
  | _, _ => gEqv false x y S
theorem op_eqW {X : Cx} (hu : X.A.units + 64 < cLine) : OpR X (compareOp .Eq) (rEqW X.K) := OpR.or (op_eqA hu) (op_eq_dict (by omega))
theorem ok_eqW {K : PySem.W.Frag} : OkOp K (rEqW K) gEqW := by
  intro ρ H S S' x y d e z Q r hx hy hg q
  unfold gEqW at hg
  split at hg
  · rename_i k i l j
    split at hg
    · rename_i hc
      obtain ⟨rfl, rfl⟩ := hc
      cases hg
      cases hx with
      | dv h hn hk hl ha =>
        rename_i a kvs
        cases hy with
        | dv h' hn' hk' hl' ha' =>
          rename_i b kvs'
          match kvs, hk, hl, ha, h, kvs', hk', hl', ha', h' with
          | [(k1, x1)], hk, hl, ha, h, [(k2, x2)], hk', hl', ha', h' =>
            have e1 : k1 = .inr k := by simpa using hk
            have e2 : k2 = .inr k := by simpa using hk'
            subst e1 e2
            have h1 := ha 0 x1 (.int i) rfl rfl
            have h2 := ha' 0 x2 (.int i) rfl rfl
            cases h1
            cases h2
            exact .inr ⟨a, b, _, rfl, rfl, h, h', by simp, by intro p hp; simp at hp; subst hp; rfl, q ρ H _ (Ext.refl ρ H) r (.bl _)⟩
    · cases hg
  · exact .inl (ok_eqv ρ H S S' x y d e z Q r hx hy hg q)
theorem tl_small {n : Nat} (h : n ≤ 1000 * 1000) : PySem.Builtin.Str.tooLong n = false := by
  unfold PySem.Builtin.Str.tooLong
  exact decide_eq_false (by rw [sizeLine_eq]; omega)
theorem rep_size {α : Type} (a : Array α) : ∀ (m : Nat) (b : Array α), ((List.replicate m a).foldl (· ++ ·) b).size = b.size + m * a.size
  | 0, b => by simp
  | m + 1, b => by
    rw [List.replicate_succ, List.foldl_cons, rep_size a m, Array.size_append, Nat.succ_mul]
    omega
def strMul (x : Str) (n : Int) : Str := if n < 1 then Str.empty else if (n == 1 || x.length == 0) = true then x else ⟨(List.replicate n.toNat x.cps).foldl (· ++ ·) #[]⟩
def rMulS : R2 := fun x y H Q => ∃ a n, x = .str a ∧ y = .int n ∧ -1000 ≤ n ∧ n ≤ 1000 ∧ a.length ≤ 1000 ∧ Q (.str (strMul a n)) H
def gMulS : OF := fun x y S => match x, y with
  | .str a, .int n => if -1000 ≤ n ∧ n ≤ 1000 ∧ a.length ≤ 1000 then some (.str (strMul a n), S) else none
  | _, _ => none
theorem op_mulS {X : Cx} : OpR X (binaryOp .Mult) rMulS := by
  intro pins s σ H x y v u Q I rx ry h
  obtain ⟨a, n, rfl, rfl, h1, h2, h3, q⟩ := h
  obtain ⟨t, rfl⟩ := rx
  obtain ⟨t2, rfl⟩ := ry
  refine PySem.P.mul_str ?_ ?_ ?_ ?_
  · have e1 : ¬ n < -(2 ^ 63 : Int) := by omega
    have e2 : ¬ n ≥ (2 ^ 63 : Int) := by omega
    rw [decide_eq_false e1, decide_eq_false e2]; rfl
  · intro g1 _ g2
    have : (2 ^ 63 - 1 : Int) / n ≥ 1000 := by
      rw [ge_iff_le, Int.le_ediv_iff_mul_le (by omega)]
      omega
    omega
  · intro g1 _
    have hm : a.length * n.toNat ≤ 1000 * 1000 := Nat.mul_le_mul h3 (by omega)
    exact tl_small hm
  · unfold strMul at q
    split
    · rename_i h
      rw [if_pos h] at q
      exact ⟨by decide, .str _, H, I.tok _, ⟨_, rfl⟩, q⟩
    · rename_i h
      rw [if_neg h] at q
      split
      · rename_i h'
        rw [if_pos h'] at q
        exact ⟨.str _, H, I, ⟨_, rfl⟩, q⟩
      · rename_i h'
        rw [if_neg h'] at q
        refine ⟨?_, .str _, H, I.tok _, ⟨_, rfl⟩, q⟩
        show ((List.replicate n.toNat a.cps).foldl (· ++ ·) #[]).size ≤ sizeLine
        rw [rep_size, sizeLine_eq]
        have h4 : a.cps.size ≤ 1000 := h3
        have hm : n.toNat * a.cps.size ≤ 1000 * 1000 := Nat.mul_le_mul (by omega) h4
        simp
        omega
theorem ok_mulS {K : PySem.W.Frag} : OkOp K rMulS gMulS := by
  intro ρ H S S' x y d e z Q r hx hy hg q
  unfold gMulS at hg
  split at hg
  · rename_i a n
    split at hg
    · rename_i hc
      cases hx
      cases hy
      cases hg
      exact ⟨a, n, rfl, rfl, hc.1, hc.2.1, hc.2.2, q ρ H _ (Ext.refl ρ H) r (.str _)⟩
    · cases hg
  · cases hg
def supOf (sup : List (Str × Str)) (a b : Str) : Bool := a == b || sup.contains (a, b)
def tgAll (sup : List (Str × Str)) (ns : List Str) : List ((Str × Str) × Bool) := ns.flatMap fun a => ns.map fun b => ((a, b), supOf sup a b)
def subsB (K : PySem.W.Frag) (sup : List (Str × Str)) (cl : List (Str × Addr)) : Bool := cl.all fun p => cl.all fun r => PySem.W.subIn K (.ref p.2) (.ref r.2) == some (supOf sup p.1 r.1)
theorem isT_all {K : PySem.W.Frag} {sup : List (Str × Str)} {cl : List (Str × Addr)} (sp : PySem.W.specialIn K (.builtin "object.__class__") "__get__" = some (some (.builtin "getset_descriptor.__get__"))) (tk : PySem.W.takesIn K (.builtin "object.__class__") = some true)
    (hs : subsB K sup cl = true) (hc : ∀ p ∈ cl, GA K p.1 p.2 ∧ XcC K p.2 ∧ PySem.W.hasDictIn K p.2 = true ∧ PySem.W.typeIn K (.ref p.2) = some (.type "type") ∧ PySem.W.subIn K (.ref p.2) (.type "ValueError") = some true ∧ PySem.W.subIn K (.type "NoneType") (.ref p.2) = some false) :
    IsT K (tgAll sup (cl.map (·.1))) (cl.map (·.1)) (cl.map (·.1)) := by
  have hsub : ∀ p ∈ cl, ∀ r ∈ cl, PySem.W.subIn K (.ref p.2) (.ref r.2) = some (supOf sup p.1 r.1) := fun p hp r hr => by
    have := List.all_eq_true.mp hs p hp
    have := List.all_eq_true.mp this r hr
    exact eq_of_beq this
  refine ⟨⟨sp, tk⟩, fun n m b h => ?_, fun n h => ?_, fun n h => ?_⟩
  · unfold tgAll at h
    obtain ⟨a, ha, h⟩ := List.mem_flatMap.mp h
    obtain ⟨b', hb, e⟩ := List.mem_map.mp h
    cases e
    obtain ⟨p, hp, rfl⟩ := List.mem_map.mp ha
    obtain ⟨r, hr, rfl⟩ := List.mem_map.mp hb
    obtain ⟨g1, x1, _⟩ := hc p hp
    obtain ⟨g2, _, d2, y2, _⟩ := hc r hr
    have h0 : PySem.W.subIn K (.ref p.2) (.ref p.2) = some true := by
      rw [hsub p hp p hp]
      simp [supOf]
    exact ⟨_, _, g1, g2, x1, kit_sub d2 y2 (hsub p hp r hr) h0⟩
  · obtain ⟨p, hp, rfl⟩ := List.mem_map.mp h
    obtain ⟨g1, x1, _, _, e, _⟩ := hc p hp
    exact ⟨_, g1, x1, kit_ve e⟩
  · obtain ⟨p, hp, rfl⟩ := List.mem_map.mp h
    obtain ⟨g1, _, d, y, _, e⟩ := hc p hp
    exact ⟨_, g1, kit_none d y e⟩
end Lv
namespace K04
open PySem PySem.Spec PyProof.Rows L2 Lv
def topS (i : Nat) : Stmt := PySem.Challenge.pw_stillranges_k04_errors_by_their_classes.main.body.getD i (.Pass ⟨0, 0, 0, 0⟩)
abbrev s_init_InvalidNumber : Stmt := (match topS 2 with | .ClassDef _ _ _ b _ _ _ _ _ _ _ => b | _ => []).getD 0 (.Pass ⟨0, 0, 0, 0⟩)
theorem sc_init_InvalidNumber : FnScope ["self", "value"] ["self", "value"] (defScope s_init_InvalidNumber) := ⟨rfl, rfl, rfl, by decide +kernel, rfl, by decide +kernel, by decide +kernel⟩
theorem bi_init_InvalidNumber {K : PySem.W.Frag} {f : Addr} {fd : FuncData} (F : FunN K "__init__" "InvalidNumber.__init__" s_init_InvalidNumber f fd) : Binds K fd ["self", "value"] [] := FunN.all F (ps := ["self", "value"]) fun _ _ _ _ _ _ _ us its h1 h2 => match us, its, h1, h2 with | [_, _], [_], _, _ => ⟨_, rfl, rfl⟩
theorem b0_init_InvalidNumber {K : PySem.W.Frag} {f : Addr} {fd : FuncData} (F : FunN K "__init__" "InvalidNumber.__init__" s_init_InvalidNumber f fd) : Binds K fd ["self", "value"] [Value.none] := FunN.last F (ps := ["self", "value"]) 1 rfl fun _ _ _ _ _ _ _ us its h1 h2 => match us, its, h1, h2 with | [_], [_], _, _ => ⟨_, rfl, rfl⟩
theorem bk_init_InvalidNumber {K : PySem.W.Frag} {f : Addr} {fd : FuncData} (F : FunN K "__init__" "InvalidNumber.__init__" s_init_InvalidNumber f fd) : KwV K fd := FunN.kw F fun _ _ _ _ _ _ _ u v its h => match its, h with | [_], _ => ⟨_, rfl, rfl⟩
abbrev s_init_InvalidName : Stmt := (match topS 3 with | .ClassDef _ _ _ b _ _ _ _ _ _ _ => b | _ => []).getD 0 (.Pass ⟨0, 0, 0, 0⟩)
theorem sc_init_InvalidName : FnScope ["self", "value"] ["self", "value"] (defScope s_init_InvalidName) := ⟨rfl, rfl, rfl, by decide +kernel, rfl, by decide +kernel, by decide +kernel⟩
theorem bi_init_InvalidName {K : PySem.W.Frag} {f : Addr} {fd : FuncData} (F : FunN K "__init__" "InvalidName.__init__" s_init_InvalidName f fd) : Binds K fd ["self", "value"] [] := FunN.all F (ps := ["self", "value"]) fun _ _ _ _ _ _ _ us its h1 h2 => match us, its, h1, h2 with | [_, _], [_], _, _ => ⟨_, rfl, rfl⟩
theorem b0_init_InvalidName {K : PySem.W.Frag} {f : Addr} {fd : FuncData} (F : FunN K "__init__" "InvalidName.__init__" s_init_InvalidName f fd) : Binds K fd ["self", "value"] [Value.none] := FunN.last F (ps := ["self", "value"]) 1 rfl fun _ _ _ _ _ _ _ us its h1 h2 => match us, its, h1, h2 with | [_], [_], _, _ => ⟨_, rfl, rfl⟩
theorem bk_init_InvalidName {K : PySem.W.Frag} {f : Addr} {fd : FuncData} (F : FunN K "__init__" "InvalidName.__init__" s_init_InvalidName f fd) : KwV K fd := FunN.kw F fun _ _ _ _ _ _ _ u v its h => match its, h with | [_], _ => ⟨_, rfl, rfl⟩
abbrev s_init_InvalidRange : Stmt := (match topS 4 with | .ClassDef _ _ _ b _ _ _ _ _ _ _ => b | _ => []).getD 0 (.Pass ⟨0, 0, 0, 0⟩)
theorem sc_init_InvalidRange : FnScope ["self", "value"] ["self", "value"] (defScope s_init_InvalidRange) := ⟨rfl, rfl, rfl, by decide +kernel, rfl, by decide +kernel, by decide +kernel⟩
theorem bi_init_InvalidRange {K : PySem.W.Frag} {f : Addr} {fd : FuncData} (F : FunN K "__init__" "InvalidRange.__init__" s_init_InvalidRange f fd) : Binds K fd ["self", "value"] [] := FunN.all F (ps := ["self", "value"]) fun _ _ _ _ _ _ _ us its h1 h2 => match us, its, h1, h2 with | [_, _], [_], _, _ => ⟨_, rfl, rfl⟩
theorem b0_init_InvalidRange {K : PySem.W.Frag} {f : Addr} {fd : FuncData} (F : FunN K "__init__" "InvalidRange.__init__" s_init_InvalidRange f fd) : Binds K fd ["self", "value"] [Value.none] := FunN.last F (ps := ["self", "value"]) 1 rfl fun _ _ _ _ _ _ _ us its h1 h2 => match us, its, h1, h2 with | [_], [_], _, _ => ⟨_, rfl, rfl⟩
theorem bk_init_InvalidRange {K : PySem.W.Frag} {f : Addr} {fd : FuncData} (F : FunN K "__init__" "InvalidRange.__init__" s_init_InvalidRange f fd) : KwV K fd := FunN.kw F fun _ _ _ _ _ _ _ u v its h => match its, h with | [_], _ => ⟨_, rfl, rfl⟩
abbrev s_init_InvalidProgram : Stmt := (match topS 5 with | .ClassDef _ _ _ b _ _ _ _ _ _ _ => b | _ => []).getD 0 (.Pass ⟨0, 0, 0, 0⟩)
theorem sc_init_InvalidProgram : FnScope ["self", "value"] ["self", "value"] (defScope s_init_InvalidProgram) := ⟨rfl, rfl, rfl, by decide +kernel, rfl, by decide +kernel, by decide +kernel⟩
theorem bi_init_InvalidProgram {K : PySem.W.Frag} {f : Addr} {fd : FuncData} (F : FunN K "__init__" "InvalidProgram.__init__" s_init_InvalidProgram f fd) : Binds K fd ["self", "value"] [] := FunN.all F (ps := ["self", "value"]) fun _ _ _ _ _ _ _ us its h1 h2 => match us, its, h1, h2 with | [_, _], [_], _, _ => ⟨_, rfl, rfl⟩
theorem b0_init_InvalidProgram {K : PySem.W.Frag} {f : Addr} {fd : FuncData} (F : FunN K "__init__" "InvalidProgram.__init__" s_init_InvalidProgram f fd) : Binds K fd ["self", "value"] [Value.none] := FunN.last F (ps := ["self", "value"]) 1 rfl fun _ _ _ _ _ _ _ us its h1 h2 => match us, its, h1, h2 with | [_], [_], _, _ => ⟨_, rfl, rfl⟩
theorem bk_init_InvalidProgram {K : PySem.W.Frag} {f : Addr} {fd : FuncData} (F : FunN K "__init__" "InvalidProgram.__init__" s_init_InvalidProgram f fd) : KwV K fd := FunN.kw F fun _ _ _ _ _ _ _ u v its h => match its, h with | [_], _ => ⟨_, rfl, rfl⟩
abbrev s_init_InvalidStep : Stmt := (match topS 6 with | .ClassDef _ _ _ b _ _ _ _ _ _ _ => b | _ => []).getD 0 (.Pass ⟨0, 0, 0, 0⟩)
theorem sc_init_InvalidStep : FnScope ["self", "value"] ["self", "value"] (defScope s_init_InvalidStep) := ⟨rfl, rfl, rfl, by decide +kernel, rfl, by decide +kernel, by decide +kernel⟩
theorem bi_init_InvalidStep {K : PySem.W.Frag} {f : Addr} {fd : FuncData} (F : FunN K "__init__" "InvalidStep.__init__" s_init_InvalidStep f fd) : Binds K fd ["self", "value"] [] := FunN.all F (ps := ["self", "value"]) fun _ _ _ _ _ _ _ us its h1 h2 => match us, its, h1, h2 with | [_, _], [_], _, _ => ⟨_, rfl, rfl⟩
theorem b0_init_InvalidStep {K : PySem.W.Frag} {f : Addr} {fd : FuncData} (F : FunN K "__init__" "InvalidStep.__init__" s_init_InvalidStep f fd) : Binds K fd ["self", "value"] [Value.none] := FunN.last F (ps := ["self", "value"]) 1 rfl fun _ _ _ _ _ _ _ us its h1 h2 => match us, its, h1, h2 with | [_], [_], _, _ => ⟨_, rfl, rfl⟩
theorem bk_init_InvalidStep {K : PySem.W.Frag} {f : Addr} {fd : FuncData} (F : FunN K "__init__" "InvalidStep.__init__" s_init_InvalidStep f fd) : KwV K fd := FunN.kw F fun _ _ _ _ _ _ _ u v its h => match its, h with | [_], _ => ⟨_, rfl, rfl⟩
abbrev s_init_InvalidDeed : Stmt := (match topS 7 with | .ClassDef _ _ _ b _ _ _ _ _ _ _ => b | _ => []).getD 0 (.Pass ⟨0, 0, 0, 0⟩)
theorem sc_init_InvalidDeed : FnScope ["self", "value"] ["self", "value"] (defScope s_init_InvalidDeed) := ⟨rfl, rfl, rfl, by decide +kernel, rfl, by decide +kernel, by decide +kernel⟩
theorem bi_init_InvalidDeed {K : PySem.W.Frag} {f : Addr} {fd : FuncData} (F : FunN K "__init__" "InvalidDeed.__init__" s_init_InvalidDeed f fd) : Binds K fd ["self", "value"] [] := FunN.all F (ps := ["self", "value"]) fun _ _ _ _ _ _ _ us its h1 h2 => match us, its, h1, h2 with | [_, _], [_], _, _ => ⟨_, rfl, rfl⟩
theorem b0_init_InvalidDeed {K : PySem.W.Frag} {f : Addr} {fd : FuncData} (F : FunN K "__init__" "InvalidDeed.__init__" s_init_InvalidDeed f fd) : Binds K fd ["self", "value"] [Value.none] := FunN.last F (ps := ["self", "value"]) 1 rfl fun _ _ _ _ _ _ _ us its h1 h2 => match us, its, h1, h2 with | [_], [_], _, _ => ⟨_, rfl, rfl⟩
theorem bk_init_InvalidDeed {K : PySem.W.Frag} {f : Addr} {fd : FuncData} (F : FunN K "__init__" "InvalidDeed.__init__" s_init_InvalidDeed f fd) : KwV K fd := FunN.kw F fun _ _ _ _ _ _ _ u v its h => match its, h with | [_], _ => ⟨_, rfl, rfl⟩
abbrev s_init_InvalidPlace : Stmt := (match topS 8 with | .ClassDef _ _ _ b _ _ _ _ _ _ _ => b | _ => []).getD 0 (.Pass ⟨0, 0, 0, 0⟩)
theorem sc_init_InvalidPlace : FnScope ["self", "value"] ["self", "value"] (defScope s_init_InvalidPlace) := ⟨rfl, rfl, rfl, by decide +kernel, rfl, by decide +kernel, by decide +kernel⟩
theorem bi_init_InvalidPlace {K : PySem.W.Frag} {f : Addr} {fd : FuncData} (F : FunN K "__init__" "InvalidPlace.__init__" s_init_InvalidPlace f fd) : Binds K fd ["self", "value"] [] := FunN.all F (ps := ["self", "value"]) fun _ _ _ _ _ _ _ us its h1 h2 => match us, its, h1, h2 with | [_, _], [_], _, _ => ⟨_, rfl, rfl⟩
theorem b0_init_InvalidPlace {K : PySem.W.Frag} {f : Addr} {fd : FuncData} (F : FunN K "__init__" "InvalidPlace.__init__" s_init_InvalidPlace f fd) : Binds K fd ["self", "value"] [Value.none] := FunN.last F (ps := ["self", "value"]) 1 rfl fun _ _ _ _ _ _ _ us its h1 h2 => match us, its, h1, h2 with | [_], [_], _, _ => ⟨_, rfl, rfl⟩
theorem bk_init_InvalidPlace {K : PySem.W.Frag} {f : Addr} {fd : FuncData} (F : FunN K "__init__" "InvalidPlace.__init__" s_init_InvalidPlace f fd) : KwV K fd := FunN.kw F fun _ _ _ _ _ _ _ u v its h => match its, h with | [_], _ => ⟨_, rfl, rfl⟩
abbrev s_init_InvalidBound : Stmt := (match topS 9 with | .ClassDef _ _ _ b _ _ _ _ _ _ _ => b | _ => []).getD 0 (.Pass ⟨0, 0, 0, 0⟩)
theorem sc_init_InvalidBound : FnScope ["self", "value"] ["self", "value"] (defScope s_init_InvalidBound) := ⟨rfl, rfl, rfl, by decide +kernel, rfl, by decide +kernel, by decide +kernel⟩
theorem bi_init_InvalidBound {K : PySem.W.Frag} {f : Addr} {fd : FuncData} (F : FunN K "__init__" "InvalidBound.__init__" s_init_InvalidBound f fd) : Binds K fd ["self", "value"] [] := FunN.all F (ps := ["self", "value"]) fun _ _ _ _ _ _ _ us its h1 h2 => match us, its, h1, h2 with | [_, _], [_], _, _ => ⟨_, rfl, rfl⟩
theorem b0_init_InvalidBound {K : PySem.W.Frag} {f : Addr} {fd : FuncData} (F : FunN K "__init__" "InvalidBound.__init__" s_init_InvalidBound f fd) : Binds K fd ["self", "value"] [Value.none] := FunN.last F (ps := ["self", "value"]) 1 rfl fun _ _ _ _ _ _ _ us its h1 h2 => match us, its, h1, h2 with | [_], [_], _, _ => ⟨_, rfl, rfl⟩
theorem bk_init_InvalidBound {K : PySem.W.Frag} {f : Addr} {fd : FuncData} (F : FunN K "__init__" "InvalidBound.__init__" s_init_InvalidBound f fd) : KwV K fd := FunN.kw F fun _ _ _ _ _ _ _ u v its h => match its, h with | [_], _ => ⟨_, rfl, rfl⟩
abbrev s_init_InvalidState : Stmt := (match topS 10 with | .ClassDef _ _ _ b _ _ _ _ _ _ _ => b | _ => []).getD 0 (.Pass ⟨0, 0, 0, 0⟩)
theorem sc_init_InvalidState : FnScope ["self", "value"] ["self", "value"] (defScope s_init_InvalidState) := ⟨rfl, rfl, rfl, by decide +kernel, rfl, by decide +kernel, by decide +kernel⟩
theorem bi_init_InvalidState {K : PySem.W.Frag} {f : Addr} {fd : FuncData} (F : FunN K "__init__" "InvalidState.__init__" s_init_InvalidState f fd) : Binds K fd ["self", "value"] [] := FunN.all F (ps := ["self", "value"]) fun _ _ _ _ _ _ _ us its h1 h2 => match us, its, h1, h2 with | [_, _], [_], _, _ => ⟨_, rfl, rfl⟩
theorem b0_init_InvalidState {K : PySem.W.Frag} {f : Addr} {fd : FuncData} (F : FunN K "__init__" "InvalidState.__init__" s_init_InvalidState f fd) : Binds K fd ["self", "value"] [Value.none] := FunN.last F (ps := ["self", "value"]) 1 rfl fun _ _ _ _ _ _ _ us its h1 h2 => match us, its, h1, h2 with | [_], [_], _, _ => ⟨_, rfl, rfl⟩
theorem bk_init_InvalidState {K : PySem.W.Frag} {f : Addr} {fd : FuncData} (F : FunN K "__init__" "InvalidState.__init__" s_init_InvalidState f fd) : KwV K fd := FunN.kw F fun _ _ _ _ _ _ _ u v its h => match its, h with | [_], _ => ⟨_, rfl, rfl⟩
abbrev s_init_InvalidRun : Stmt := (match topS 11 with | .ClassDef _ _ _ b _ _ _ _ _ _ _ => b | _ => []).getD 0 (.Pass ⟨0, 0, 0, 0⟩)
theorem sc_init_InvalidRun : FnScope ["self", "value"] ["self", "value"] (defScope s_init_InvalidRun) := ⟨rfl, rfl, rfl, by decide +kernel, rfl, by decide +kernel, by decide +kernel⟩
theorem bi_init_InvalidRun {K : PySem.W.Frag} {f : Addr} {fd : FuncData} (F : FunN K "__init__" "InvalidRun.__init__" s_init_InvalidRun f fd) : Binds K fd ["self", "value"] [] := FunN.all F (ps := ["self", "value"]) fun _ _ _ _ _ _ _ us its h1 h2 => match us, its, h1, h2 with | [_, _], [_], _, _ => ⟨_, rfl, rfl⟩
theorem b0_init_InvalidRun {K : PySem.W.Frag} {f : Addr} {fd : FuncData} (F : FunN K "__init__" "InvalidRun.__init__" s_init_InvalidRun f fd) : Binds K fd ["self", "value"] [Value.none] := FunN.last F (ps := ["self", "value"]) 1 rfl fun _ _ _ _ _ _ _ us its h1 h2 => match us, its, h1, h2 with | [_], [_], _, _ => ⟨_, rfl, rfl⟩
theorem bk_init_InvalidRun {K : PySem.W.Frag} {f : Addr} {fd : FuncData} (F : FunN K "__init__" "InvalidRun.__init__" s_init_InvalidRun f fd) : KwV K fd := FunN.kw F fun _ _ _ _ _ _ _ u v its h => match its, h with | [_], _ => ⟨_, rfl, rfl⟩
abbrev s_init_InvalidRow : Stmt := (match topS 12 with | .ClassDef _ _ _ b _ _ _ _ _ _ _ => b | _ => []).getD 0 (.Pass ⟨0, 0, 0, 0⟩)
theorem sc_init_InvalidRow : FnScope ["self", "value"] ["self", "value"] (defScope s_init_InvalidRow) := ⟨rfl, rfl, rfl, by decide +kernel, rfl, by decide +kernel, by decide +kernel⟩
theorem bi_init_InvalidRow {K : PySem.W.Frag} {f : Addr} {fd : FuncData} (F : FunN K "__init__" "InvalidRow.__init__" s_init_InvalidRow f fd) : Binds K fd ["self", "value"] [] := FunN.all F (ps := ["self", "value"]) fun _ _ _ _ _ _ _ us its h1 h2 => match us, its, h1, h2 with | [_, _], [_], _, _ => ⟨_, rfl, rfl⟩
theorem b0_init_InvalidRow {K : PySem.W.Frag} {f : Addr} {fd : FuncData} (F : FunN K "__init__" "InvalidRow.__init__" s_init_InvalidRow f fd) : Binds K fd ["self", "value"] [Value.none] := FunN.last F (ps := ["self", "value"]) 1 rfl fun _ _ _ _ _ _ _ us its h1 h2 => match us, its, h1, h2 with | [_], [_], _, _ => ⟨_, rfl, rfl⟩
theorem bk_init_InvalidRow {K : PySem.W.Frag} {f : Addr} {fd : FuncData} (F : FunN K "__init__" "InvalidRow.__init__" s_init_InvalidRow f fd) : KwV K fd := FunN.kw F fun _ _ _ _ _ _ _ u v its h => match its, h with | [_], _ => ⟨_, rfl, rfl⟩
abbrev s_init_InvalidTable : Stmt := (match topS 13 with | .ClassDef _ _ _ b _ _ _ _ _ _ _ => b | _ => []).getD 0 (.Pass ⟨0, 0, 0, 0⟩)
theorem sc_init_InvalidTable : FnScope ["self", "value"] ["self", "value"] (defScope s_init_InvalidTable) := ⟨rfl, rfl, rfl, by decide +kernel, rfl, by decide +kernel, by decide +kernel⟩
theorem bi_init_InvalidTable {K : PySem.W.Frag} {f : Addr} {fd : FuncData} (F : FunN K "__init__" "InvalidTable.__init__" s_init_InvalidTable f fd) : Binds K fd ["self", "value"] [] := FunN.all F (ps := ["self", "value"]) fun _ _ _ _ _ _ _ us its h1 h2 => match us, its, h1, h2 with | [_, _], [_], _, _ => ⟨_, rfl, rfl⟩
theorem b0_init_InvalidTable {K : PySem.W.Frag} {f : Addr} {fd : FuncData} (F : FunN K "__init__" "InvalidTable.__init__" s_init_InvalidTable f fd) : Binds K fd ["self", "value"] [Value.none] := FunN.last F (ps := ["self", "value"]) 1 rfl fun _ _ _ _ _ _ _ us its h1 h2 => match us, its, h1, h2 with | [_], [_], _, _ => ⟨_, rfl, rfl⟩
theorem bk_init_InvalidTable {K : PySem.W.Frag} {f : Addr} {fd : FuncData} (F : FunN K "__init__" "InvalidTable.__init__" s_init_InvalidTable f fd) : KwV K fd := FunN.kw F fun _ _ _ _ _ _ _ u v its h => match its, h with | [_], _ => ⟨_, rfl, rfl⟩
abbrev s_init_InvalidOpen : Stmt := (match topS 14 with | .ClassDef _ _ _ b _ _ _ _ _ _ _ => b | _ => []).getD 0 (.Pass ⟨0, 0, 0, 0⟩)
theorem sc_init_InvalidOpen : FnScope ["self", "value"] ["self", "value"] (defScope s_init_InvalidOpen) := ⟨rfl, rfl, rfl, by decide +kernel, rfl, by decide +kernel, by decide +kernel⟩
theorem bi_init_InvalidOpen {K : PySem.W.Frag} {f : Addr} {fd : FuncData} (F : FunN K "__init__" "InvalidOpen.__init__" s_init_InvalidOpen f fd) : Binds K fd ["self", "value"] [] := FunN.all F (ps := ["self", "value"]) fun _ _ _ _ _ _ _ us its h1 h2 => match us, its, h1, h2 with | [_, _], [_], _, _ => ⟨_, rfl, rfl⟩
theorem b0_init_InvalidOpen {K : PySem.W.Frag} {f : Addr} {fd : FuncData} (F : FunN K "__init__" "InvalidOpen.__init__" s_init_InvalidOpen f fd) : Binds K fd ["self", "value"] [Value.none] := FunN.last F (ps := ["self", "value"]) 1 rfl fun _ _ _ _ _ _ _ us its h1 h2 => match us, its, h1, h2 with | [_], [_], _, _ => ⟨_, rfl, rfl⟩
theorem bk_init_InvalidOpen {K : PySem.W.Frag} {f : Addr} {fd : FuncData} (F : FunN K "__init__" "InvalidOpen.__init__" s_init_InvalidOpen f fd) : KwV K fd := FunN.kw F fun _ _ _ _ _ _ _ u v its h => match its, h with | [_], _ => ⟨_, rfl, rfl⟩
abbrev s_init_InvalidPlan : Stmt := (match topS 15 with | .ClassDef _ _ _ b _ _ _ _ _ _ _ => b | _ => []).getD 0 (.Pass ⟨0, 0, 0, 0⟩)
theorem sc_init_InvalidPlan : FnScope ["self", "value"] ["self", "value"] (defScope s_init_InvalidPlan) := ⟨rfl, rfl, rfl, by decide +kernel, rfl, by decide +kernel, by decide +kernel⟩
theorem bi_init_InvalidPlan {K : PySem.W.Frag} {f : Addr} {fd : FuncData} (F : FunN K "__init__" "InvalidPlan.__init__" s_init_InvalidPlan f fd) : Binds K fd ["self", "value"] [] := FunN.all F (ps := ["self", "value"]) fun _ _ _ _ _ _ _ us its h1 h2 => match us, its, h1, h2 with | [_, _], [_], _, _ => ⟨_, rfl, rfl⟩
theorem b0_init_InvalidPlan {K : PySem.W.Frag} {f : Addr} {fd : FuncData} (F : FunN K "__init__" "InvalidPlan.__init__" s_init_InvalidPlan f fd) : Binds K fd ["self", "value"] [Value.none] := FunN.last F (ps := ["self", "value"]) 1 rfl fun _ _ _ _ _ _ _ us its h1 h2 => match us, its, h1, h2 with | [_], [_], _, _ => ⟨_, rfl, rfl⟩
theorem bk_init_InvalidPlan {K : PySem.W.Frag} {f : Addr} {fd : FuncData} (F : FunN K "__init__" "InvalidPlan.__init__" s_init_InvalidPlan f fd) : KwV K fd := FunN.kw F fun _ _ _ _ _ _ _ u v its h => match its, h with | [_], _ => ⟨_, rfl, rfl⟩
abbrev s_init_InvalidPaper : Stmt := (match topS 16 with | .ClassDef _ _ _ b _ _ _ _ _ _ _ => b | _ => []).getD 0 (.Pass ⟨0, 0, 0, 0⟩)
theorem sc_init_InvalidPaper : FnScope ["self", "value"] ["self", "value"] (defScope s_init_InvalidPaper) := ⟨rfl, rfl, rfl, by decide +kernel, rfl, by decide +kernel, by decide +kernel⟩
theorem bi_init_InvalidPaper {K : PySem.W.Frag} {f : Addr} {fd : FuncData} (F : FunN K "__init__" "InvalidPaper.__init__" s_init_InvalidPaper f fd) : Binds K fd ["self", "value"] [] := FunN.all F (ps := ["self", "value"]) fun _ _ _ _ _ _ _ us its h1 h2 => match us, its, h1, h2 with | [_, _], [_], _, _ => ⟨_, rfl, rfl⟩
theorem b0_init_InvalidPaper {K : PySem.W.Frag} {f : Addr} {fd : FuncData} (F : FunN K "__init__" "InvalidPaper.__init__" s_init_InvalidPaper f fd) : Binds K fd ["self", "value"] [Value.none] := FunN.last F (ps := ["self", "value"]) 1 rfl fun _ _ _ _ _ _ _ us its h1 h2 => match us, its, h1, h2 with | [_], [_], _, _ => ⟨_, rfl, rfl⟩
theorem bk_init_InvalidPaper {K : PySem.W.Frag} {f : Addr} {fd : FuncData} (F : FunN K "__init__" "InvalidPaper.__init__" s_init_InvalidPaper f fd) : KwV K fd := FunN.kw F fun _ _ _ _ _ _ _ u v its h => match its, h with | [_], _ => ⟨_, rfl, rfl⟩
abbrev s_init_InvalidWidth : Stmt := (match topS 17 with | .ClassDef _ _ _ b _ _ _ _ _ _ _ => b | _ => []).getD 0 (.Pass ⟨0, 0, 0, 0⟩)
theorem sc_init_InvalidWidth : FnScope ["self", "value"] ["self", "value"] (defScope s_init_InvalidWidth) := ⟨rfl, rfl, rfl, by decide +kernel, rfl, by decide +kernel, by decide +kernel⟩
theorem bi_init_InvalidWidth {K : PySem.W.Frag} {f : Addr} {fd : FuncData} (F : FunN K "__init__" "InvalidWidth.__init__" s_init_InvalidWidth f fd) : Binds K fd ["self", "value"] [] := FunN.all F (ps := ["self", "value"]) fun _ _ _ _ _ _ _ us its h1 h2 => match us, its, h1, h2 with | [_, _], [_], _, _ => ⟨_, rfl, rfl⟩
theorem b0_init_InvalidWidth {K : PySem.W.Frag} {f : Addr} {fd : FuncData} (F : FunN K "__init__" "InvalidWidth.__init__" s_init_InvalidWidth f fd) : Binds K fd ["self", "value"] [Value.none] := FunN.last F (ps := ["self", "value"]) 1 rfl fun _ _ _ _ _ _ _ us its h1 h2 => match us, its, h1, h2 with | [_], [_], _, _ => ⟨_, rfl, rfl⟩
theorem bk_init_InvalidWidth {K : PySem.W.Frag} {f : Addr} {fd : FuncData} (F : FunN K "__init__" "InvalidWidth.__init__" s_init_InvalidWidth f fd) : KwV K fd := FunN.kw F fun _ _ _ _ _ _ _ u v its h => match its, h with | [_], _ => ⟨_, rfl, rfl⟩
abbrev s_init_InvalidWish : Stmt := (match topS 18 with | .ClassDef _ _ _ b _ _ _ _ _ _ _ => b | _ => []).getD 0 (.Pass ⟨0, 0, 0, 0⟩)
theorem sc_init_InvalidWish : FnScope ["self", "value"] ["self", "value"] (defScope s_init_InvalidWish) := ⟨rfl, rfl, rfl, by decide +kernel, rfl, by decide +kernel, by decide +kernel⟩
theorem bi_init_InvalidWish {K : PySem.W.Frag} {f : Addr} {fd : FuncData} (F : FunN K "__init__" "InvalidWish.__init__" s_init_InvalidWish f fd) : Binds K fd ["self", "value"] [] := FunN.all F (ps := ["self", "value"]) fun _ _ _ _ _ _ _ us its h1 h2 => match us, its, h1, h2 with | [_, _], [_], _, _ => ⟨_, rfl, rfl⟩
theorem b0_init_InvalidWish {K : PySem.W.Frag} {f : Addr} {fd : FuncData} (F : FunN K "__init__" "InvalidWish.__init__" s_init_InvalidWish f fd) : Binds K fd ["self", "value"] [Value.none] := FunN.last F (ps := ["self", "value"]) 1 rfl fun _ _ _ _ _ _ _ us its h1 h2 => match us, its, h1, h2 with | [_], [_], _, _ => ⟨_, rfl, rfl⟩
theorem bk_init_InvalidWish {K : PySem.W.Frag} {f : Addr} {fd : FuncData} (F : FunN K "__init__" "InvalidWish.__init__" s_init_InvalidWish f fd) : KwV K fd := FunN.kw F fun _ _ _ _ _ _ _ u v its h => match its, h with | [_], _ => ⟨_, rfl, rfl⟩
abbrev s_init_InvalidText : Stmt := (match topS 19 with | .ClassDef _ _ _ b _ _ _ _ _ _ _ => b | _ => []).getD 0 (.Pass ⟨0, 0, 0, 0⟩)
theorem sc_init_InvalidText : FnScope ["self", "value"] ["self", "value"] (defScope s_init_InvalidText) := ⟨rfl, rfl, rfl, by decide +kernel, rfl, by decide +kernel, by decide +kernel⟩
theorem bi_init_InvalidText {K : PySem.W.Frag} {f : Addr} {fd : FuncData} (F : FunN K "__init__" "InvalidText.__init__" s_init_InvalidText f fd) : Binds K fd ["self", "value"] [] := FunN.all F (ps := ["self", "value"]) fun _ _ _ _ _ _ _ us its h1 h2 => match us, its, h1, h2 with | [_, _], [_], _, _ => ⟨_, rfl, rfl⟩
theorem b0_init_InvalidText {K : PySem.W.Frag} {f : Addr} {fd : FuncData} (F : FunN K "__init__" "InvalidText.__init__" s_init_InvalidText f fd) : Binds K fd ["self", "value"] [Value.none] := FunN.last F (ps := ["self", "value"]) 1 rfl fun _ _ _ _ _ _ _ us its h1 h2 => match us, its, h1, h2 with | [_], [_], _, _ => ⟨_, rfl, rfl⟩
theorem bk_init_InvalidText {K : PySem.W.Frag} {f : Addr} {fd : FuncData} (F : FunN K "__init__" "InvalidText.__init__" s_init_InvalidText f fd) : KwV K fd := FunN.kw F fun _ _ _ _ _ _ _ u v its h => match its, h with | [_], _ => ⟨_, rfl, rfl⟩
abbrev s_init_InvalidEdit : Stmt := (match topS 20 with | .ClassDef _ _ _ b _ _ _ _ _ _ _ => b | _ => []).getD 0 (.Pass ⟨0, 0, 0, 0⟩)
theorem sc_init_InvalidEdit : FnScope ["self", "value"] ["self", "value"] (defScope s_init_InvalidEdit) := ⟨rfl, rfl, rfl, by decide +kernel, rfl, by decide +kernel, by decide +kernel⟩
theorem bi_init_InvalidEdit {K : PySem.W.Frag} {f : Addr} {fd : FuncData} (F : FunN K "__init__" "InvalidEdit.__init__" s_init_InvalidEdit f fd) : Binds K fd ["self", "value"] [] := FunN.all F (ps := ["self", "value"]) fun _ _ _ _ _ _ _ us its h1 h2 => match us, its, h1, h2 with | [_, _], [_], _, _ => ⟨_, rfl, rfl⟩
theorem b0_init_InvalidEdit {K : PySem.W.Frag} {f : Addr} {fd : FuncData} (F : FunN K "__init__" "InvalidEdit.__init__" s_init_InvalidEdit f fd) : Binds K fd ["self", "value"] [Value.none] := FunN.last F (ps := ["self", "value"]) 1 rfl fun _ _ _ _ _ _ _ us its h1 h2 => match us, its, h1, h2 with | [_], [_], _, _ => ⟨_, rfl, rfl⟩
theorem bk_init_InvalidEdit {K : PySem.W.Frag} {f : Addr} {fd : FuncData} (F : FunN K "__init__" "InvalidEdit.__init__" s_init_InvalidEdit f fd) : KwV K fd := FunN.kw F fun _ _ _ _ _ _ _ u v its h => match its, h with | [_], _ => ⟨_, rfl, rfl⟩
abbrev s_init_Unlike : Stmt := (match topS 21 with | .ClassDef _ _ _ b _ _ _ _ _ _ _ => b | _ => []).getD 0 (.Pass ⟨0, 0, 0, 0⟩)
theorem sc_init_Unlike : FnScope ["self", "value"] ["self", "value"] (defScope s_init_Unlike) := ⟨rfl, rfl, rfl, by decide +kernel, rfl, by decide +kernel, by decide +kernel⟩
theorem bi_init_Unlike {K : PySem.W.Frag} {f : Addr} {fd : FuncData} (F : FunN K "__init__" "Unlike.__init__" s_init_Unlike f fd) : Binds K fd ["self", "value"] [] := FunN.all F (ps := ["self", "value"]) fun _ _ _ _ _ _ _ us its h1 h2 => match us, its, h1, h2 with | [_, _], [_], _, _ => ⟨_, rfl, rfl⟩
theorem b0_init_Unlike {K : PySem.W.Frag} {f : Addr} {fd : FuncData} (F : FunN K "__init__" "Unlike.__init__" s_init_Unlike f fd) : Binds K fd ["self", "value"] [Value.none] := FunN.last F (ps := ["self", "value"]) 1 rfl fun _ _ _ _ _ _ _ us its h1 h2 => match us, its, h1, h2 with | [_], [_], _, _ => ⟨_, rfl, rfl⟩
theorem bk_init_Unlike {K : PySem.W.Frag} {f : Addr} {fd : FuncData} (F : FunN K "__init__" "Unlike.__init__" s_init_Unlike f fd) : KwV K fd := FunN.kw F fun _ _ _ _ _ _ _ u v its h => match its, h with | [_], _ => ⟨_, rfl, rfl⟩
abbrev s_init_TooMany : Stmt := (match topS 22 with | .ClassDef _ _ _ b _ _ _ _ _ _ _ => b | _ => []).getD 0 (.Pass ⟨0, 0, 0, 0⟩)
theorem sc_init_TooMany : FnScope ["self", "value"] ["self", "value"] (defScope s_init_TooMany) := ⟨rfl, rfl, rfl, by decide +kernel, rfl, by decide +kernel, by decide +kernel⟩
theorem bi_init_TooMany {K : PySem.W.Frag} {f : Addr} {fd : FuncData} (F : FunN K "__init__" "TooMany.__init__" s_init_TooMany f fd) : Binds K fd ["self", "value"] [] := FunN.all F (ps := ["self", "value"]) fun _ _ _ _ _ _ _ us its h1 h2 => match us, its, h1, h2 with | [_, _], [_], _, _ => ⟨_, rfl, rfl⟩
theorem b0_init_TooMany {K : PySem.W.Frag} {f : Addr} {fd : FuncData} (F : FunN K "__init__" "TooMany.__init__" s_init_TooMany f fd) : Binds K fd ["self", "value"] [Value.none] := FunN.last F (ps := ["self", "value"]) 1 rfl fun _ _ _ _ _ _ _ us its h1 h2 => match us, its, h1, h2 with | [_], [_], _, _ => ⟨_, rfl, rfl⟩
theorem bk_init_TooMany {K : PySem.W.Frag} {f : Addr} {fd : FuncData} (F : FunN K "__init__" "TooMany.__init__" s_init_TooMany f fd) : KwV K fd := FunN.kw F fun _ _ _ _ _ _ _ u v its h => match its, h with | [_], _ => ⟨_, rfl, rfl⟩
abbrev s_init_Stuck : Stmt := (match topS 23 with | .ClassDef _ _ _ b _ _ _ _ _ _ _ => b | _ => []).getD 0 (.Pass ⟨0, 0, 0, 0⟩)
theorem sc_init_Stuck : FnScope ["self", "value"] ["self", "value"] (defScope s_init_Stuck) := ⟨rfl, rfl, rfl, by decide +kernel, rfl, by decide +kernel, by decide +kernel⟩
theorem bi_init_Stuck {K : PySem.W.Frag} {f : Addr} {fd : FuncData} (F : FunN K "__init__" "Stuck.__init__" s_init_Stuck f fd) : Binds K fd ["self", "value"] [] := FunN.all F (ps := ["self", "value"]) fun _ _ _ _ _ _ _ us its h1 h2 => match us, its, h1, h2 with | [_, _], [_], _, _ => ⟨_, rfl, rfl⟩
theorem b0_init_Stuck {K : PySem.W.Frag} {f : Addr} {fd : FuncData} (F : FunN K "__init__" "Stuck.__init__" s_init_Stuck f fd) : Binds K fd ["self", "value"] [Value.none] := FunN.last F (ps := ["self", "value"]) 1 rfl fun _ _ _ _ _ _ _ us its h1 h2 => match us, its, h1, h2 with | [_], [_], _, _ => ⟨_, rfl, rfl⟩
theorem bk_init_Stuck {K : PySem.W.Frag} {f : Addr} {fd : FuncData} (F : FunN K "__init__" "Stuck.__init__" s_init_Stuck f fd) : KwV K fd := FunN.kw F fun _ _ _ _ _ _ _ u v its h => match its, h with | [_], _ => ⟨_, rfl, rfl⟩
def kkNM : List Str := ["BoundError", "InvalidNumber", "InvalidName", "InvalidRange", "InvalidProgram", "InvalidStep", "InvalidDeed", "InvalidPlace", "InvalidBound", "InvalidState", "InvalidRun", "InvalidRow", "InvalidTable", "InvalidOpen", "InvalidPlan", "InvalidPaper", "InvalidWidth", "InvalidWish", "InvalidText", "InvalidEdit", "Unlike", "TooMany", "Stuck", "NothingToUndo", "NothingToRedo"]
def kkSUP : List (Str × Str) := [("InvalidNumber", "BoundError"), ("InvalidName", "BoundError"), ("InvalidRange", "BoundError"), ("InvalidProgram", "BoundError"), ("InvalidStep", "BoundError"), ("InvalidDeed", "BoundError"), ("InvalidPlace", "BoundError"), ("InvalidBound", "BoundError"), ("InvalidState", "BoundError"), ("InvalidRun", "BoundError"), ("InvalidRow", "BoundError"), ("InvalidTable", "BoundError"), ("InvalidOpen", "BoundError"), ("InvalidPlan", "BoundError"), ("InvalidPaper", "BoundError"), ("InvalidWidth", "BoundError"), ("InvalidWish", "BoundError"), ("InvalidText", "BoundError"), ("InvalidEdit", "BoundError"), ("Unlike", "BoundError"), ("TooMany", "BoundError"), ("Stuck", "BoundError"), ("NothingToUndo", "BoundError"), ("NothingToRedo", "BoundError")]
def kkTG : List ((Str × Str) × Bool) := tgAll kkSUP kkNM
def kkTV : List Str := kkNM
def kkTN : List Str := kkNM
def kkERR : List Str := ["InvalidNumber", "InvalidName", "InvalidRange", "InvalidProgram", "InvalidStep", "InvalidDeed", "InvalidPlace", "InvalidBound", "InvalidState", "InvalidRun", "InvalidRow", "InvalidTable", "InvalidOpen", "InvalidPlan", "InvalidPaper", "InvalidWidth", "InvalidWish", "InvalidText", "InvalidEdit", "Unlike", "TooMany", "Stuck"]
def kkTABS : List (Str × Str) := []
abbrev s__law_by_name : Stmt := topS 33
abbrev N__law_by_name : List Str := ["value", "found"]
abbrev P__law_by_name : List Str := ["value"]
theorem sc__law_by_name : FnScope N__law_by_name P__law_by_name (defScope s__law_by_name) := ⟨rfl, rfl, rfl, by decide +kernel, rfl, by decide +kernel, by decide +kernel⟩
noncomputable def b__law_by_name (fu : Nat) : SF := (sCons (sSet 1 (eCall (cLst false) (aCons (eMk "InvalidNumber" (aCons (eVar 0) aNil)) (aCons (eMk "InvalidName" (aCons (eVar 0) aNil)) (aCons (eMk "InvalidRange" (aCons (eVar 0) aNil)) (aCons (eMk "InvalidProgram" (aCons (eVar 0) aNil)) (aCons (eMk "InvalidStep" (aCons (eVar 0) aNil)) aNil))))))) (sCons (sSet 1 (eBin (gAdd false) (eVar 1) (eCall (cLst false) (aCons (eMk "InvalidDeed" (aCons (eVar 0) aNil)) (aCons (eMk "InvalidPlace" (aCons (eVar 0) aNil)) (aCons (eMk "InvalidBound" (aCons (eVar 0) aNil)) (aCons (eMk "InvalidState" (aCons (eVar 0) aNil)) (aCons (eMk "InvalidRun" (aCons (eVar 0) aNil)) aNil)))))))) (sCons (sSet 1 (eBin (gAdd false) (eVar 1) (eCall (cLst false) (aCons (eMk "InvalidRow" (aCons (eVar 0) aNil)) (aCons (eMk "InvalidTable" (aCons (eVar 0) aNil)) (aCons (eMk "InvalidOpen" (aCons (eVar 0) aNil)) (aCons (eMk "InvalidPlan" (aCons (eVar 0) aNil)) (aCons (eMk "InvalidPaper" (aCons (eVar 0) aNil)) aNil)))))))) (sCons (sSet 1 (eBin (gAdd false) (eVar 1) (eCall (cLst false) (aCons (eMk "InvalidWidth" (aCons (eVar 0) aNil)) (aCons (eMk "InvalidWish" (aCons (eVar 0) aNil)) (aCons (eMk "InvalidText" (aCons (eVar 0) aNil)) (aCons (eMk "InvalidEdit" (aCons (eVar 0) aNil)) (aCons (eMk "Unlike" (aCons (eVar 0) aNil)) aNil)))))))) (sCons (sRet (eBin (gAdd false) (eVar 1) (eCall (cLst false) (aCons (eMk "TooMany" (aCons (eVar 0) aNil)) (aCons (eMk "Stuck" (aCons (eVar 0) aNil)) aNil))))) sNil)))))
noncomputable def u__law_by_name (fu : Nat) : CF := fnF 1 2 (b__law_by_name fu)
noncomputable def c__law_by_name (fu : Nat) : CF := sealed (u__law_by_name fu)
theorem bi__law_by_name {K : PySem.W.Frag} {f : Addr} {fd : FuncData} (F : Fun K "_law_by_name" "_law_by_name" s__law_by_name f fd) : Binds K fd P__law_by_name [] := F.binds (ps := P__law_by_name) fun _ _ _ _ _ _ us hl => match us, hl with | [_], _ => rfl
abbrev s__law_empty : Stmt := topS 34
abbrev N__law_empty : List Str := ["found"]
abbrev P__law_empty : List Str := []
theorem sc__law_empty : FnScope N__law_empty P__law_empty (defScope s__law_empty) := ⟨rfl, rfl, rfl, by decide +kernel, rfl, by decide +kernel, by decide +kernel⟩
noncomputable def b__law_empty (fu : Nat) : SF := (sCons (sSet 0 (eCall (cLst false) (aCons (eMk0 "InvalidNumber") (aCons (eMk0 "InvalidName") (aCons (eMk0 "InvalidRange") (aCons (eMk0 "InvalidProgram") (aCons (eMk0 "InvalidStep") aNil))))))) (sCons (sSet 0 (eBin (gAdd false) (eVar 0) (eCall (cLst false) (aCons (eMk0 "InvalidDeed") (aCons (eMk0 "InvalidPlace") (aCons (eMk0 "InvalidBound") (aCons (eMk0 "InvalidState") (aCons (eMk0 "InvalidRun") aNil)))))))) (sCons (sSet 0 (eBin (gAdd false) (eVar 0) (eCall (cLst false) (aCons (eMk0 "InvalidRow") (aCons (eMk0 "InvalidTable") (aCons (eMk0 "InvalidOpen") (aCons (eMk0 "InvalidPlan") (aCons (eMk0 "InvalidPaper") aNil)))))))) (sCons (sSet 0 (eBin (gAdd false) (eVar 0) (eCall (cLst false) (aCons (eMk0 "InvalidWidth") (aCons (eMk0 "InvalidWish") (aCons (eMk0 "InvalidText") (aCons (eMk0 "InvalidEdit") (aCons (eMk0 "Unlike") aNil)))))))) (sCons (sRet (eBin (gAdd false) (eVar 0) (eCall (cLst false) (aCons (eMk0 "TooMany") (aCons (eMk0 "Stuck") aNil))))) sNil)))))
noncomputable def u__law_empty (fu : Nat) : CF := fnF 0 1 (b__law_empty fu)
noncomputable def c__law_empty (fu : Nat) : CF := sealed (u__law_empty fu)
theorem bi__law_empty {K : PySem.W.Frag} {f : Addr} {fd : FuncData} (F : Fun K "_law_empty" "_law_empty" s__law_empty f fd) : Binds K fd P__law_empty [] := F.binds (ps := P__law_empty) fun _ _ _ _ _ _ us hl => match us, hl with | [], _ => rfl
abbrev s__law_cell : Stmt := topS 29
abbrev N__law_cell : List Str := ["script", "index"]
abbrev P__law_cell : List Str := ["script", "index"]
theorem sc__law_cell : FnScope N__law_cell P__law_cell (defScope s__law_cell) := ⟨rfl, rfl, rfl, by decide +kernel, rfl, by decide +kernel, by decide +kernel⟩
theorem bi__law_cell {K : PySem.W.Frag} {f : Addr} {fd : FuncData} (F : Fun K "_law_cell" "_law_cell" s__law_cell f fd) : Binds K fd P__law_cell [] := F.binds (ps := P__law_cell) fun _ _ _ _ _ _ us hl => match us, hl with | [_, _], _ => rfl
abbrev s__law_generator : Stmt := topS 30
abbrev N__law_generator : List Str := ["script", "index", "seed"]
abbrev P__law_generator : List Str := ["script", "index"]
theorem sc__law_generator : FnScope N__law_generator P__law_generator (defScope s__law_generator) := ⟨rfl, rfl, rfl, by decide +kernel, rfl, by decide +kernel, by decide +kernel⟩
theorem bi__law_generator {K : PySem.W.Frag} {f : Addr} {fd : FuncData} (F : Fun K "_law_generator" "_law_generator" s__law_generator f fd) : Binds K fd P__law_generator [] := F.binds (ps := P__law_generator) fun _ _ _ _ _ _ us hl => match us, hl with | [_, _], _ => rfl
abbrev s__law_kinds : Stmt := topS 31
abbrev N__law_kinds : List Str := ["error", "found"]
abbrev P__law_kinds : List Str := ["error"]
theorem sc__law_kinds : FnScope N__law_kinds P__law_kinds (defScope s__law_kinds) := ⟨rfl, rfl, rfl, by decide +kernel, rfl, by decide +kernel, by decide +kernel⟩
noncomputable def b__law_kinds (fu : Nat) : SF := (sCons (sSet 1 (eCall (cLst false) (aCons (eCall (cIsX kkTG kkTV kkTN) (aCons (eVar 0) (aCons (eC (.gl "InvalidNumber")) aNil))) (aCons (eCall (cIsX kkTG kkTV kkTN) (aCons (eVar 0) (aCons (eC (.gl "InvalidName")) aNil))) (aCons (eCall (cIsX kkTG kkTV kkTN) (aCons (eVar 0) (aCons (eC (.gl "InvalidRange")) aNil))) (aCons (eCall (cIsX kkTG kkTV kkTN) (aCons (eVar 0) (aCons (eC (.gl "InvalidProgram")) aNil))) aNil)))))) (sCons (sSet 1 (eBin (gAdd false) (eVar 1) (eCall (cLst false) (aCons (eCall (cIsX kkTG kkTV kkTN) (aCons (eVar 0) (aCons (eC (.gl "InvalidStep")) aNil))) (aCons (eCall (cIsX kkTG kkTV kkTN) (aCons (eVar 0) (aCons (eC (.gl "InvalidDeed")) aNil))) (aCons (eCall (cIsX kkTG kkTV kkTN) (aCons (eVar 0) (aCons (eC (.gl "InvalidPlace")) aNil))) (aCons (eCall (cIsX kkTG kkTV kkTN) (aCons (eVar 0) (aCons (eC (.gl "InvalidBound")) aNil))) aNil))))))) (sCons (sSet 1 (eBin (gAdd false) (eVar 1) (eCall (cLst false) (aCons (eCall (cIsX kkTG kkTV kkTN) (aCons (eVar 0) (aCons (eC (.gl "InvalidState")) aNil))) (aCons (eCall (cIsX kkTG kkTV kkTN) (aCons (eVar 0) (aCons (eC (.gl "InvalidRun")) aNil))) (aCons (eCall (cIsX kkTG kkTV kkTN) (aCons (eVar 0) (aCons (eC (.gl "InvalidRow")) aNil))) (aCons (eCall (cIsX kkTG kkTV kkTN) (aCons (eVar 0) (aCons (eC (.gl "InvalidTable")) aNil))) aNil))))))) (sCons (sSet 1 (eBin (gAdd false) (eVar 1) (eCall (cLst false) (aCons (eCall (cIsX kkTG kkTV kkTN) (aCons (eVar 0) (aCons (eC (.gl "InvalidOpen")) aNil))) (aCons (eCall (cIsX kkTG kkTV kkTN) (aCons (eVar 0) (aCons (eC (.gl "InvalidPlan")) aNil))) (aCons (eCall (cIsX kkTG kkTV kkTN) (aCons (eVar 0) (aCons (eC (.gl "InvalidPaper")) aNil))) (aCons (eCall (cIsX kkTG kkTV kkTN) (aCons (eVar 0) (aCons (eC (.gl "InvalidWidth")) aNil))) aNil))))))) (sCons (sSet 1 (eBin (gAdd false) (eVar 1) (eCall (cLst false) (aCons (eCall (cIsX kkTG kkTV kkTN) (aCons (eVar 0) (aCons (eC (.gl "InvalidWish")) aNil))) (aCons (eCall (cIsX kkTG kkTV kkTN) (aCons (eVar 0) (aCons (eC (.gl "InvalidText")) aNil))) (aCons (eCall (cIsX kkTG kkTV kkTN) (aCons (eVar 0) (aCons (eC (.gl "InvalidEdit")) aNil))) (aCons (eCall (cIsX kkTG kkTV kkTN) (aCons (eVar 0) (aCons (eC (.gl "Unlike")) aNil))) aNil))))))) (sCons (sSet 1 (eBin (gAdd false) (eVar 1) (eCall (cLst false) (aCons (eCall (cIsX kkTG kkTV kkTN) (aCons (eVar 0) (aCons (eC (.gl "TooMany")) aNil))) (aCons (eCall (cIsX kkTG kkTV kkTN) (aCons (eVar 0) (aCons (eC (.gl "Stuck")) aNil))) aNil))))) (sCons (sRet (eBin (gAdd false) (eVar 1) (eCall (cLst false) (aCons (eCall (cIsX kkTG kkTV kkTN) (aCons (eVar 0) (aCons (eC (.gl "NothingToUndo")) aNil))) (aCons (eCall (cIsX kkTG kkTV kkTN) (aCons (eVar 0) (aCons (eC (.gl "NothingToRedo")) aNil))) aNil))))) sNil)))))))
noncomputable def u__law_kinds (fu : Nat) : CF := fnF 1 2 (b__law_kinds fu)
noncomputable def c__law_kinds (fu : Nat) : CF := sealed (u__law_kinds fu)
theorem bi__law_kinds {K : PySem.W.Frag} {f : Addr} {fd : FuncData} (F : Fun K "_law_kinds" "_law_kinds" s__law_kinds f fd) : Binds K fd P__law_kinds [] := F.binds (ps := P__law_kinds) fun _ _ _ _ _ _ us hl => match us, hl with | [_], _ => rfl
abbrev s__law_made : Stmt := topS 32
abbrev N__law_made : List Str := ["value", "found"]
abbrev P__law_made : List Str := ["value"]
theorem sc__law_made : FnScope N__law_made P__law_made (defScope s__law_made) := ⟨rfl, rfl, rfl, by decide +kernel, rfl, by decide +kernel, by decide +kernel⟩
noncomputable def b__law_made (fu : Nat) : SF := (sCons (sSet 1 (eCall (cLst false) (aCons (eMk "InvalidNumber" (aCons (eVar 0) aNil)) (aCons (eMk "InvalidName" (aCons (eVar 0) aNil)) (aCons (eMk "InvalidRange" (aCons (eVar 0) aNil)) (aCons (eMk "InvalidProgram" (aCons (eVar 0) aNil)) (aCons (eMk "InvalidStep" (aCons (eVar 0) aNil)) aNil))))))) (sCons (sSet 1 (eBin (gAdd false) (eVar 1) (eCall (cLst false) (aCons (eMk "InvalidDeed" (aCons (eVar 0) aNil)) (aCons (eMk "InvalidPlace" (aCons (eVar 0) aNil)) (aCons (eMk "InvalidBound" (aCons (eVar 0) aNil)) (aCons (eMk "InvalidState" (aCons (eVar 0) aNil)) (aCons (eMk "InvalidRun" (aCons (eVar 0) aNil)) aNil)))))))) (sCons (sSet 1 (eBin (gAdd false) (eVar 1) (eCall (cLst false) (aCons (eMk "InvalidRow" (aCons (eVar 0) aNil)) (aCons (eMk "InvalidTable" (aCons (eVar 0) aNil)) (aCons (eMk "InvalidOpen" (aCons (eVar 0) aNil)) (aCons (eMk "InvalidPlan" (aCons (eVar 0) aNil)) (aCons (eMk "InvalidPaper" (aCons (eVar 0) aNil)) aNil)))))))) (sCons (sSet 1 (eBin (gAdd false) (eVar 1) (eCall (cLst false) (aCons (eMk "InvalidWidth" (aCons (eVar 0) aNil)) (aCons (eMk "InvalidWish" (aCons (eVar 0) aNil)) (aCons (eMk "InvalidText" (aCons (eVar 0) aNil)) (aCons (eMk "InvalidEdit" (aCons (eVar 0) aNil)) (aCons (eMk "Unlike" (aCons (eVar 0) aNil)) aNil)))))))) (sCons (sRet (eBin (gAdd false) (eVar 1) (eCall (cLst false) (aCons (eMk "TooMany" (aCons (eVar 0) aNil)) (aCons (eMk "Stuck" (aCons (eVar 0) aNil)) aNil))))) sNil)))))
noncomputable def u__law_made (fu : Nat) : CF := fnF 1 2 (b__law_made fu)
noncomputable def c__law_made (fu : Nat) : CF := sealed (u__law_made fu)
theorem bi__law_made {K : PySem.W.Frag} {f : Addr} {fd : FuncData} (F : Fun K "_law_made" "_law_made" s__law_made f fd) : Binds K fd P__law_made [] := F.binds (ps := P__law_made) fun _ _ _ _ _ _ us hl => match us, hl with | [_], _ => rfl
abbrev s__law_hash : Stmt := topS 27
abbrev N__law_hash : List Str := ["seed", "index", "mixed"]
abbrev P__law_hash : List Str := ["seed", "index"]
theorem sc__law_hash : FnScope N__law_hash P__law_hash (defScope s__law_hash) := ⟨rfl, rfl, rfl, by decide +kernel, rfl, by decide +kernel, by decide +kernel⟩
theorem bi__law_hash {K : PySem.W.Frag} {f : Addr} {fd : FuncData} (F : Fun K "_law_hash" "_law_hash" s__law_hash f fd) : Binds K fd P__law_hash [] := F.binds (ps := P__law_hash) fun _ _ _ _ _ _ us hl => match us, hl with | [_, _], _ => rfl
abbrev s__law_random : Stmt := topS 28
abbrev N__law_random : List Str := ["generator", "bound", "drawn", "turn"]
abbrev P__law_random : List Str := ["generator", "bound"]
theorem sc__law_random : FnScope N__law_random P__law_random (defScope s__law_random) := ⟨rfl, rfl, rfl, by decide +kernel, rfl, by decide +kernel, by decide +kernel⟩
theorem bi__law_random {K : PySem.W.Frag} {f : Addr} {fd : FuncData} (F : Fun K "_law_random" "_law_random" s__law_random f fd) : Binds K fd P__law_random [] := F.binds (ps := P__law_random) fun _ _ _ _ _ _ us hl => match us, hl with | [_, _], _ => rfl
abbrev s__law_row_right : Stmt := topS 35
abbrev N__law_row_right : List Str := ["made", "value", "at", "error", "place"]
abbrev P__law_row_right : List Str := ["made", "value"]
theorem sc__law_row_right : FnScope N__law_row_right P__law_row_right (defScope s__law_row_right) := ⟨rfl, rfl, rfl, by decide +kernel, rfl, by decide +kernel, by decide +kernel⟩
noncomputable def b__law_row_right (fu : Nat) : SF := (sCons (sFor fu (.tp [2, 3]) (iEnumF (aCons (eVar 0) aNil)) (sCons (sIf (tOrF (tNotF (truF (eCall (cIsX kkTG kkTV kkTN) (aCons (eVar 3) (aCons (eC (.gl "BoundError")) aNil))))) (tNotF (truF (eCall (cIsX kkTG kkTV kkTN) (aCons (eVar 3) (aCons (eC (.ty "ValueError")) aNil)))))) (sCons (sRet (eC (.bl false))) sNil) sNil) (sCons (sIf (truB (eBin (gEqv true) (eCall (c__law_kinds fu) (aCons (eVar 3) aNil)) (eComp false fu [4] (iRange1 (aCons (eC (.int 24)) aNil)) (.nm 4) tYesF (eBin (gEqv false) (eVar 4) (eVar 2))))) (sCons (sRet (eC (.bl false))) sNil) sNil) (sCons (sIf (tOrF (tNotF (truB (eBin gEqW (eValT kkERR (eVar 3)) (eVar 1)))) (truB (eBin (gEqv true) (eCall cReprW (aCons (eValT kkERR (eVar 3)) aNil)) (eCall cReprW (aCons (eVar 1) aNil))))) (sCons (sRet (eC (.bl false))) sNil) sNil) sNil)))) (sCons (sRet (eBin (gEqv false) (eCall cLen (aCons (eVar 0) aNil)) (eC (.int 22)))) sNil))
noncomputable def u__law_row_right (fu : Nat) : CF := fnF 2 5 (b__law_row_right fu)
noncomputable def c__law_row_right (fu : Nat) : CF := sealed (u__law_row_right fu)
theorem bi__law_row_right {K : PySem.W.Frag} {f : Addr} {fd : FuncData} (F : Fun K "_law_row_right" "_law_row_right" s__law_row_right f fd) : Binds K fd P__law_row_right [] := F.binds (ps := P__law_row_right) fun _ _ _ _ _ _ us hl => match us, hl with | [_, _], _ => rfl
abbrev s_law : Stmt := topS 36
abbrev N_law : List Str := ["script", "generator", "number", "value", "error", "odd", "grown", "at", "place"]
abbrev P_law : List Str := ["script"]
theorem sc_law : FnScope N_law P_law (defScope s_law) := ⟨rfl, rfl, rfl, by decide +kernel, rfl, by decide +kernel, by decide +kernel⟩
noncomputable def b_law (fu : Nat) : SF := (sCons (sSet 1 (eCall (Com.v__law_generator fu) (aCons (eVar 0) (aCons (eC (.int 0)) aNil)))) (sCons (sSet 2 (eCall (Com.c__law_random fu) (aCons (eVar 1) (aCons (eBin (gArith fPow) (eC (.int 10)) (eC (.int 29))) aNil)))) (sCons (sFor fu (.nm 3) (iAny (eCall (cLst false) (aCons (eC .non) (aCons (eVar 2) (aCons (eBin gMulS (eC (.str "ab")) (eCall (Com.c__law_random fu) (aCons (eVar 1) (aCons (eC (.int 3)) aNil)))) (aCons (eCall cTup (aCons (eC (.str "x")) (aCons (eCall (cLst false) (aCons (eVar 2) aNil)) aNil))) (aCons (eDisp [((eC (.str "a")), (eC (.int 1)))]) (aCons (eC (.bl true)) aNil)))))))) (sCons (sIf (tOrF (tNotF (truF (eCall (c__law_row_right fu) (aCons (eCall (c__law_made fu) (aCons (eVar 3) aNil)) (aCons (eVar 3) aNil))))) (tNotF (truF (eCall (c__law_row_right fu) (aCons (eCall (c__law_by_name fu) (aCons (eVar 3) aNil)) (aCons (eVar 3) aNil)))))) (sCons (sRet (eC (.bl false))) sNil) sNil) sNil)) (sCons (sIf (tNotF (truF (eCall (c__law_row_right fu) (aCons (eCall (c__law_empty fu) aNil) (aCons (eC .non) aNil))))) (sCons (sRet (eC (.bl false))) sNil) sNil) (sCons (sFor fu (.nm 4) (iAny (eCall (cLst false) (aCons (eMkN "BoundError" aNil) (aCons (eMkN "BoundError" (aCons (eC (.str "a")) (aCons (eVar 2) aNil))) aNil)))) (sCons (sIf (tOrF (tNotF (truF (eCall (cIsX kkTG kkTV kkTN) (aCons (eVar 4) (aCons (eC (.ty "ValueError")) aNil))))) (truB (eBin (gIn2 false) (eC (.bl true)) (eCall (c__law_kinds fu) (aCons (eVar 4) aNil))))) (sCons (sRet (eC (.bl false))) sNil) sNil) sNil)) (sCons (sSet 5 (eCall (cLst true) (aCons (eVar 2) aNil))) (sCons (sSet 6 (eCall (c__law_made fu) (aCons (eVar 5) aNil))) (sCons (sDrop (eMethL mAppend (eVar 5) (aCons (eC (.int 1)) aNil))) (sCons (sIf (truB (eBin (gEqv true) (eComp false fu [4] (iAny (eVar 6)) (.nm 4) (truB (eBin (gEqv true) (eValT kkERR (eVar 4)) (eCall (cLst false) (aCons (eVar 2) (aCons (eC (.int 1)) aNil))))) (eVar 4)) (eCall (cLst false) aNil))) (sCons (sRet (eC (.bl false))) sNil) sNil) (sCons (sFor fu (.tp [7, 4]) (iEnumF (aCons (eCall (cLst false) (aCons (eMkN "NothingToUndo" aNil) (aCons (eMkN "NothingToRedo" aNil) aNil))) aNil)) (sCons (sIf (tOrF (tNotF (truF (eCall (cIsX kkTG kkTV kkTN) (aCons (eVar 4) (aCons (eC (.gl "BoundError")) aNil))))) (tNotF (truF (eCall (cIsX kkTG kkTV kkTN) (aCons (eVar 4) (aCons (eC (.ty "ValueError")) aNil)))))) (sCons (sRet (eC (.bl false))) sNil) sNil) (sCons (sIf (truB (eBin (gEqv true) (eCall (c__law_kinds fu) (aCons (eVar 4) aNil)) (eComp false fu [8] (iRange1 (aCons (eC (.int 24)) aNil)) (.nm 8) tYesF (eBin (gEqv false) (eVar 8) (eBin (gAdd false) (eC (.int 22)) (eVar 7)))))) (sCons (sRet (eC (.bl false))) sNil) sNil) sNil))) (sCons (sRet (eC (.bl true))) sNil)))))))))))
noncomputable def u_law (fu : Nat) : CF := fnF 1 9 (b_law fu)
noncomputable def c_law (fu : Nat) : CF := sealed (u_law fu)
end K04
namespace K04
open PySem PySem.Spec PyProof.Rows L2 Lv
structure Facts (w : World) (K : PySem.W.Frag) (mg : Str → Option Value) (base : Heap) where
  a_BoundError : Addr
  g_BoundError : GA K "BoundError" a_BoundError
  m_BoundError : mg "BoundError" = some (.ref a_BoundError)
  o_BoundError : ErrO K mg "BoundError"
  a_InvalidNumber : Addr
  g_InvalidNumber : GA K "InvalidNumber" a_InvalidNumber
  m_InvalidNumber : mg "InvalidNumber" = some (.ref a_InvalidNumber)
  e_InvalidNumber : ∀ P : Program, ErrC P w K mg base "InvalidNumber"
  d_InvalidNumber : ∀ P : Program, ErrD P w K mg base "InvalidNumber"
  a_InvalidName : Addr
  g_InvalidName : GA K "InvalidName" a_InvalidName
  m_InvalidName : mg "InvalidName" = some (.ref a_InvalidName)
  e_InvalidName : ∀ P : Program, ErrC P w K mg base "InvalidName"
  d_InvalidName : ∀ P : Program, ErrD P w K mg base "InvalidName"
  a_InvalidRange : Addr
  g_InvalidRange : GA K "InvalidRange" a_InvalidRange
  m_InvalidRange : mg "InvalidRange" = some (.ref a_InvalidRange)
  e_InvalidRange : ∀ P : Program, ErrC P w K mg base "InvalidRange"
  d_InvalidRange : ∀ P : Program, ErrD P w K mg base "InvalidRange"
  a_InvalidProgram : Addr
  g_InvalidProgram : GA K "InvalidProgram" a_InvalidProgram
  m_InvalidProgram : mg "InvalidProgram" = some (.ref a_InvalidProgram)
  e_InvalidProgram : ∀ P : Program, ErrC P w K mg base "InvalidProgram"
  d_InvalidProgram : ∀ P : Program, ErrD P w K mg base "InvalidProgram"
  a_InvalidStep : Addr
  g_InvalidStep : GA K "InvalidStep" a_InvalidStep
  m_InvalidStep : mg "InvalidStep" = some (.ref a_InvalidStep)
  e_InvalidStep : ∀ P : Program, ErrC P w K mg base "InvalidStep"
  d_InvalidStep : ∀ P : Program, ErrD P w K mg base "InvalidStep"
  a_InvalidDeed : Addr
  g_InvalidDeed : GA K "InvalidDeed" a_InvalidDeed
  m_InvalidDeed : mg "InvalidDeed" = some (.ref a_InvalidDeed)
  e_InvalidDeed : ∀ P : Program, ErrC P w K mg base "InvalidDeed"
  d_InvalidDeed : ∀ P : Program, ErrD P w K mg base "InvalidDeed"
  a_InvalidPlace : Addr
  g_InvalidPlace : GA K "InvalidPlace" a_InvalidPlace
  m_InvalidPlace : mg "InvalidPlace" = some (.ref a_InvalidPlace)
  e_InvalidPlace : ∀ P : Program, ErrC P w K mg base "InvalidPlace"
  d_InvalidPlace : ∀ P : Program, ErrD P w K mg base "InvalidPlace"
  a_InvalidBound : Addr
  g_InvalidBound : GA K "InvalidBound" a_InvalidBound
  m_InvalidBound : mg "InvalidBound" = some (.ref a_InvalidBound)
  e_InvalidBound : ∀ P : Program, ErrC P w K mg base "InvalidBound"
  d_InvalidBound : ∀ P : Program, ErrD P w K mg base "InvalidBound"
  a_InvalidState : Addr
  g_InvalidState : GA K "InvalidState" a_InvalidState
  m_InvalidState : mg "InvalidState" = some (.ref a_InvalidState)
  e_InvalidState : ∀ P : Program, ErrC P w K mg base "InvalidState"
  d_InvalidState : ∀ P : Program, ErrD P w K mg base "InvalidState"
  a_InvalidRun : Addr
  g_InvalidRun : GA K "InvalidRun" a_InvalidRun
  m_InvalidRun : mg "InvalidRun" = some (.ref a_InvalidRun)
  e_InvalidRun : ∀ P : Program, ErrC P w K mg base "InvalidRun"
  d_InvalidRun : ∀ P : Program, ErrD P w K mg base "InvalidRun"
  a_InvalidRow : Addr
  g_InvalidRow : GA K "InvalidRow" a_InvalidRow
  m_InvalidRow : mg "InvalidRow" = some (.ref a_InvalidRow)
  e_InvalidRow : ∀ P : Program, ErrC P w K mg base "InvalidRow"
  d_InvalidRow : ∀ P : Program, ErrD P w K mg base "InvalidRow"
  a_InvalidTable : Addr
  g_InvalidTable : GA K "InvalidTable" a_InvalidTable
  m_InvalidTable : mg "InvalidTable" = some (.ref a_InvalidTable)
  e_InvalidTable : ∀ P : Program, ErrC P w K mg base "InvalidTable"
  d_InvalidTable : ∀ P : Program, ErrD P w K mg base "InvalidTable"
  a_InvalidOpen : Addr
  g_InvalidOpen : GA K "InvalidOpen" a_InvalidOpen
  m_InvalidOpen : mg "InvalidOpen" = some (.ref a_InvalidOpen)
  e_InvalidOpen : ∀ P : Program, ErrC P w K mg base "InvalidOpen"
  d_InvalidOpen : ∀ P : Program, ErrD P w K mg base "InvalidOpen"
  a_InvalidPlan : Addr
  g_InvalidPlan : GA K "InvalidPlan" a_InvalidPlan
  m_InvalidPlan : mg "InvalidPlan" = some (.ref a_InvalidPlan)
  e_InvalidPlan : ∀ P : Program, ErrC P w K mg base "InvalidPlan"
  d_InvalidPlan : ∀ P : Program, ErrD P w K mg base "InvalidPlan"
  a_InvalidPaper : Addr
  g_InvalidPaper : GA K "InvalidPaper" a_InvalidPaper
  m_InvalidPaper : mg "InvalidPaper" = some (.ref a_InvalidPaper)
  e_InvalidPaper : ∀ P : Program, ErrC P w K mg base "InvalidPaper"
  d_InvalidPaper : ∀ P : Program, ErrD P w K mg base "InvalidPaper"
  a_InvalidWidth : Addr
  g_InvalidWidth : GA K "InvalidWidth" a_InvalidWidth
  m_InvalidWidth : mg "InvalidWidth" = some (.ref a_InvalidWidth)
  e_InvalidWidth : ∀ P : Program, ErrC P w K mg base "InvalidWidth"
  d_InvalidWidth : ∀ P : Program, ErrD P w K mg base "InvalidWidth"
  a_InvalidWish : Addr
  g_InvalidWish : GA K "InvalidWish" a_InvalidWish
  m_InvalidWish : mg "InvalidWish" = some (.ref a_InvalidWish)
  e_InvalidWish : ∀ P : Program, ErrC P w K mg base "InvalidWish"
  d_InvalidWish : ∀ P : Program, ErrD P w K mg base "InvalidWish"
  a_InvalidText : Addr
  g_InvalidText : GA K "InvalidText" a_InvalidText
  m_InvalidText : mg "InvalidText" = some (.ref a_InvalidText)
  e_InvalidText : ∀ P : Program, ErrC P w K mg base "InvalidText"
  d_InvalidText : ∀ P : Program, ErrD P w K mg base "InvalidText"
  a_InvalidEdit : Addr
  g_InvalidEdit : GA K "InvalidEdit" a_InvalidEdit
  m_InvalidEdit : mg "InvalidEdit" = some (.ref a_InvalidEdit)
  e_InvalidEdit : ∀ P : Program, ErrC P w K mg base "InvalidEdit"
  d_InvalidEdit : ∀ P : Program, ErrD P w K mg base "InvalidEdit"
  a_Unlike : Addr
  g_Unlike : GA K "Unlike" a_Unlike
  m_Unlike : mg "Unlike" = some (.ref a_Unlike)
  e_Unlike : ∀ P : Program, ErrC P w K mg base "Unlike"
  d_Unlike : ∀ P : Program, ErrD P w K mg base "Unlike"
  a_TooMany : Addr
  g_TooMany : GA K "TooMany" a_TooMany
  m_TooMany : mg "TooMany" = some (.ref a_TooMany)
  e_TooMany : ∀ P : Program, ErrC P w K mg base "TooMany"
  d_TooMany : ∀ P : Program, ErrD P w K mg base "TooMany"
  a_Stuck : Addr
  g_Stuck : GA K "Stuck" a_Stuck
  m_Stuck : mg "Stuck" = some (.ref a_Stuck)
  e_Stuck : ∀ P : Program, ErrC P w K mg base "Stuck"
  d_Stuck : ∀ P : Program, ErrD P w K mg base "Stuck"
  a_NothingToUndo : Addr
  g_NothingToUndo : GA K "NothingToUndo" a_NothingToUndo
  m_NothingToUndo : mg "NothingToUndo" = some (.ref a_NothingToUndo)
  o_NothingToUndo : ErrO K mg "NothingToUndo"
  a_NothingToRedo : Addr
  g_NothingToRedo : GA K "NothingToRedo" a_NothingToRedo
  m_NothingToRedo : mg "NothingToRedo" = some (.ref a_NothingToRedo)
  o_NothingToRedo : ErrO K mg "NothingToRedo"
  it : IsT K kkTG kkTV kkTN
  er : Errs K kkERR
  tb : TabsB K mg base kkTABS
  a__law_by_name : Addr
  fd__law_by_name : FuncData
  F__law_by_name : Fun K "_law_by_name" "_law_by_name" s__law_by_name a__law_by_name fd__law_by_name
  m__law_by_name : mg "_law_by_name" = some (.ref a__law_by_name)
  g__law_by_name : GA K "_law_by_name" a__law_by_name
  a__law_empty : Addr
  fd__law_empty : FuncData
  F__law_empty : Fun K "_law_empty" "_law_empty" s__law_empty a__law_empty fd__law_empty
  m__law_empty : mg "_law_empty" = some (.ref a__law_empty)
  g__law_empty : GA K "_law_empty" a__law_empty
  a__law_cell : Addr
  fd__law_cell : FuncData
  F__law_cell : Fun K "_law_cell" "_law_cell" s__law_cell a__law_cell fd__law_cell
  m__law_cell : mg "_law_cell" = some (.ref a__law_cell)
  g__law_cell : GA K "_law_cell" a__law_cell
  a__law_generator : Addr
  fd__law_generator : FuncData
  F__law_generator : Fun K "_law_generator" "_law_generator" s__law_generator a__law_generator fd__law_generator
  m__law_generator : mg "_law_generator" = some (.ref a__law_generator)
  g__law_generator : GA K "_law_generator" a__law_generator
  a__law_kinds : Addr
  fd__law_kinds : FuncData
  F__law_kinds : Fun K "_law_kinds" "_law_kinds" s__law_kinds a__law_kinds fd__law_kinds
  m__law_kinds : mg "_law_kinds" = some (.ref a__law_kinds)
  g__law_kinds : GA K "_law_kinds" a__law_kinds
  a__law_made : Addr
  fd__law_made : FuncData
  F__law_made : Fun K "_law_made" "_law_made" s__law_made a__law_made fd__law_made
  m__law_made : mg "_law_made" = some (.ref a__law_made)
  g__law_made : GA K "_law_made" a__law_made
  a__law_hash : Addr
  fd__law_hash : FuncData
  F__law_hash : Fun K "_law_hash" "_law_hash" s__law_hash a__law_hash fd__law_hash
  m__law_hash : mg "_law_hash" = some (.ref a__law_hash)
  g__law_hash : GA K "_law_hash" a__law_hash
  a__law_random : Addr
  fd__law_random : FuncData
  F__law_random : Fun K "_law_random" "_law_random" s__law_random a__law_random fd__law_random
  m__law_random : mg "_law_random" = some (.ref a__law_random)
  g__law_random : GA K "_law_random" a__law_random
  a__law_row_right : Addr
  fd__law_row_right : FuncData
  F__law_row_right : Fun K "_law_row_right" "_law_row_right" s__law_row_right a__law_row_right fd__law_row_right
  m__law_row_right : mg "_law_row_right" = some (.ref a__law_row_right)
  g__law_row_right : GA K "_law_row_right" a__law_row_right
  a_law : Addr
  fd_law : FuncData
  F_law : Fun K "law" "law" s_law a_law fd_law
  m_law : mg "law" = some (.ref a_law)
  g_law : GA K "law" a_law
  z_ValueError : mg "ValueError" = none
  z_enumerate : mg "enumerate" = none
  z_int : mg "int" = none
  z_isinstance : mg "isinstance" = none
  z_len : mg "len" = none
  z_max : mg "max" = none
  z_range : mg "range" = none
  z_repr : mg "repr" = none
  z_sum : mg "sum" = none
section
variable {P : Program} {w : World} {K : PySem.W.Frag} {mg : Str → Option Value} {base : Heap} {fu : Nat}
theorem oku__law_by_name (C : Facts w K mg base) : FnG P w K mg base 3 C.a__law_by_name C.fd__law_by_name P__law_by_name (spOf K 1 (u__law_by_name fu)) := fn_g C.F__law_by_name sc__law_by_name fun cdv A outer s H hr hG => by
  have nd := sc__law_by_name.nd
  exact (ls_cons (ls_set 1 nd (l_lst (la_cons (l_mkK (C.d_InvalidNumber _) (hr.mono (by decide)) (by rfl) (lk_cons (l_var 0) lk_nil)) (la_cons (l_mkK (C.d_InvalidName _) (hr.mono (by decide)) (by rfl) (lk_cons (l_var 0) lk_nil)) (la_cons (l_mkK (C.d_InvalidRange _) (hr.mono (by decide)) (by rfl) (lk_cons (l_var 0) lk_nil)) (la_cons (l_mkK (C.d_InvalidProgram _) (hr.mono (by decide)) (by rfl) (lk_cons (l_var 0) lk_nil)) (la_cons (l_mkK (C.d_InvalidStep _) (hr.mono (by decide)) (by rfl) (lk_cons (l_var 0) lk_nil)) la_nil))))))) (ls_cons (ls_set 1 nd (l_bin op_addL ok_add (l_var 1) (l_lst (la_cons (l_mkK (C.d_InvalidDeed _) (hr.mono (by decide)) (by rfl) (lk_cons (l_var 0) lk_nil)) (la_cons (l_mkK (C.d_InvalidPlace _) (hr.mono (by decide)) (by rfl) (lk_cons (l_var 0) lk_nil)) (la_cons (l_mkK (C.d_InvalidBound _) (hr.mono (by decide)) (by rfl) (lk_cons (l_var 0) lk_nil)) (la_cons (l_mkK (C.d_InvalidState _) (hr.mono (by decide)) (by rfl) (lk_cons (l_var 0) lk_nil)) (la_cons (l_mkK (C.d_InvalidRun _) (hr.mono (by decide)) (by rfl) (lk_cons (l_var 0) lk_nil)) la_nil)))))))) (ls_cons (ls_set 1 nd (l_bin op_addL ok_add (l_var 1) (l_lst (la_cons (l_mkK (C.d_InvalidRow _) (hr.mono (by decide)) (by rfl) (lk_cons (l_var 0) lk_nil)) (la_cons (l_mkK (C.d_InvalidTable _) (hr.mono (by decide)) (by rfl) (lk_cons (l_var 0) lk_nil)) (la_cons (l_mkK (C.d_InvalidOpen _) (hr.mono (by decide)) (by rfl) (lk_cons (l_var 0) lk_nil)) (la_cons (l_mkK (C.d_InvalidPlan _) (hr.mono (by decide)) (by rfl) (lk_cons (l_var 0) lk_nil)) (la_cons (l_mkK (C.d_InvalidPaper _) (hr.mono (by decide)) (by rfl) (lk_cons (l_var 0) lk_nil)) la_nil)))))))) (ls_cons (ls_set 1 nd (l_bin op_addL ok_add (l_var 1) (l_lst (la_cons (l_mkK (C.d_InvalidWidth _) (hr.mono (by decide)) (by rfl) (lk_cons (l_var 0) lk_nil)) (la_cons (l_mkK (C.d_InvalidWish _) (hr.mono (by decide)) (by rfl) (lk_cons (l_var 0) lk_nil)) (la_cons (l_mkK (C.d_InvalidText _) (hr.mono (by decide)) (by rfl) (lk_cons (l_var 0) lk_nil)) (la_cons (l_mkK (C.d_InvalidEdit _) (hr.mono (by decide)) (by rfl) (lk_cons (l_var 0) lk_nil)) (la_cons (l_mkK (C.d_Unlike _) (hr.mono (by decide)) (by rfl) (lk_cons (l_var 0) lk_nil)) la_nil)))))))) (ls_cons (ls_ret (l_bin op_addL ok_add (l_var 1) (l_lst (la_cons (l_mkK (C.d_TooMany _) (hr.mono (by decide)) (by rfl) (lk_cons (l_var 0) lk_nil)) (la_cons (l_mkK (C.d_Stuck _) (hr.mono (by decide)) (by rfl) (lk_cons (l_var 0) lk_nil)) la_nil))))) ls_nil)))))
theorem ok__law_by_name (C : Facts w K mg base) : FnG P w K mg base 3 C.a__law_by_name C.fd__law_by_name P__law_by_name (spOf K 1 (c__law_by_name fu)) := (oku__law_by_name C).sealed
theorem oku__law_empty (C : Facts w K mg base) : FnG P w K mg base 3 C.a__law_empty C.fd__law_empty P__law_empty (spOf K 0 (u__law_empty fu)) := fn_g C.F__law_empty sc__law_empty fun cdv A outer s H hr hG => by
  have nd := sc__law_empty.nd
  exact (ls_cons (ls_set 0 nd (l_lst (la_cons (l_mk0 (C.d_InvalidNumber _) (hr.mono (by decide)) (by rfl)) (la_cons (l_mk0 (C.d_InvalidName _) (hr.mono (by decide)) (by rfl)) (la_cons (l_mk0 (C.d_InvalidRange _) (hr.mono (by decide)) (by rfl)) (la_cons (l_mk0 (C.d_InvalidProgram _) (hr.mono (by decide)) (by rfl)) (la_cons (l_mk0 (C.d_InvalidStep _) (hr.mono (by decide)) (by rfl)) la_nil))))))) (ls_cons (ls_set 0 nd (l_bin op_addL ok_add (l_var 0) (l_lst (la_cons (l_mk0 (C.d_InvalidDeed _) (hr.mono (by decide)) (by rfl)) (la_cons (l_mk0 (C.d_InvalidPlace _) (hr.mono (by decide)) (by rfl)) (la_cons (l_mk0 (C.d_InvalidBound _) (hr.mono (by decide)) (by rfl)) (la_cons (l_mk0 (C.d_InvalidState _) (hr.mono (by decide)) (by rfl)) (la_cons (l_mk0 (C.d_InvalidRun _) (hr.mono (by decide)) (by rfl)) la_nil)))))))) (ls_cons (ls_set 0 nd (l_bin op_addL ok_add (l_var 0) (l_lst (la_cons (l_mk0 (C.d_InvalidRow _) (hr.mono (by decide)) (by rfl)) (la_cons (l_mk0 (C.d_InvalidTable _) (hr.mono (by decide)) (by rfl)) (la_cons (l_mk0 (C.d_InvalidOpen _) (hr.mono (by decide)) (by rfl)) (la_cons (l_mk0 (C.d_InvalidPlan _) (hr.mono (by decide)) (by rfl)) (la_cons (l_mk0 (C.d_InvalidPaper _) (hr.mono (by decide)) (by rfl)) la_nil)))))))) (ls_cons (ls_set 0 nd (l_bin op_addL ok_add (l_var 0) (l_lst (la_cons (l_mk0 (C.d_InvalidWidth _) (hr.mono (by decide)) (by rfl)) (la_cons (l_mk0 (C.d_InvalidWish _) (hr.mono (by decide)) (by rfl)) (la_cons (l_mk0 (C.d_InvalidText _) (hr.mono (by decide)) (by rfl)) (la_cons (l_mk0 (C.d_InvalidEdit _) (hr.mono (by decide)) (by rfl)) (la_cons (l_mk0 (C.d_Unlike _) (hr.mono (by decide)) (by rfl)) la_nil)))))))) (ls_cons (ls_ret (l_bin op_addL ok_add (l_var 0) (l_lst (la_cons (l_mk0 (C.d_TooMany _) (hr.mono (by decide)) (by rfl)) (la_cons (l_mk0 (C.d_Stuck _) (hr.mono (by decide)) (by rfl)) la_nil))))) ls_nil)))))
theorem ok__law_empty (C : Facts w K mg base) : FnG P w K mg base 3 C.a__law_empty C.fd__law_empty P__law_empty (spOf K 0 (c__law_empty fu)) := (oku__law_empty C).sealed
theorem oku__law_cell (C : Facts w K mg base) : FnG P w K mg base 1 C.a__law_cell C.fd__law_cell P__law_cell (spOf K 2 (Com.u__law_cell fu)) := fn_g C.F__law_cell sc__law_cell fun cdv A outer s H hr hG => by
  have nd := sc__law_cell.nd
  exact (ls_cons (ls_if (lt_cmp op_lt ok_cmpI (l_var 1) (l_callB cr_len ok_len (by rfl) C.z_len (by decide +kernel) (la_cons (l_var 0) la_nil)) (nomark _)) (ls_cons (ls_ret (l_ix (l_var 0) (l_var 1))) ls_nil) ls_nil) (ls_cons (ls_ret (l_bin op_mod ok_mod (l_callB (cr_sum rfl) ok_sum (by rfl) C.z_sum (by decide +kernel) (la_cons (l_sl (l_var 0) lo_none (lo_some l_int)) la_nil)) l_int)) ls_nil))
theorem ok__law_cell (C : Facts w K mg base) : FnG P w K mg base 1 C.a__law_cell C.fd__law_cell P__law_cell (spOf K 2 (Com.c__law_cell fu)) := (oku__law_cell C).sealed
theorem okuv__law_generator (C : Facts w K mg base) : FnG P w K mg base 2 C.a__law_generator C.fd__law_generator P__law_generator (spOf K 2 (Com.uv__law_generator fu)) := fn_g C.F__law_generator sc__law_generator fun cdv A outer s H hr hG => by
  have nd := sc__law_generator.nd
  exact (ls_cons (ls_set 2 nd (l_call (ok__law_cell C) (ar_sealed ar_fn) (hr.mono (by decide)) hG (by rfl) C.m__law_cell C.F__law_cell.kp (bi__law_cell C.F__law_cell) rfl (la_cons (l_var 0) (la_cons (l_var 1) la_nil)))) (ls_cons (ls_ret (l_lst (la_cons (l_bin op_mod ok_mod (l_callTy call_int1 ok_int (by rfl) C.z_int (by decide +kernel) (la_cons (l_callB (call_max2 rfl) ok_max (by rfl) C.z_max (by decide +kernel) (la_cons (l_bin op_sub ok_sub (l_var 2) (l_bin op_powW ok_pow l_int l_int)) (la_cons l_int la_nil))) la_nil)) (l_bin op_powW ok_pow (l_bin op_powW ok_pow l_int l_int) l_int)) (la_cons (l_bin op_mod ok_mod (l_callTy call_int1 ok_int (by rfl) C.z_int (by decide +kernel) (la_cons (l_var 2) la_nil)) l_int) (la_cons (l_bin op_mulW ok_mul l_int (l_var 1)) la_nil))))) ls_nil))
theorem okv__law_generator (C : Facts w K mg base) : FnG P w K mg base 2 C.a__law_generator C.fd__law_generator P__law_generator (spOf K 2 (Com.v__law_generator fu)) := (okuv__law_generator C).sealedR
theorem oku__law_kinds (C : Facts w K mg base) : FnG P w K mg base 1 C.a__law_kinds C.fd__law_kinds P__law_kinds (spOf K 1 (u__law_kinds fu)) := fn_g C.F__law_kinds sc__law_kinds fun cdv A outer s H hr hG => by
  have nd := sc__law_kinds.nd
  exact (ls_cons (ls_set 1 nd (l_lst (la_cons (l_callB cr_isX (ok_isX C.it) (by rfl) C.z_isinstance (by decide +kernel) (la_cons (l_var 0) (la_cons (l_gl (by rfl) C.m_InvalidNumber C.g_InvalidNumber) la_nil))) (la_cons (l_callB cr_isX (ok_isX C.it) (by rfl) C.z_isinstance (by decide +kernel) (la_cons (l_var 0) (la_cons (l_gl (by rfl) C.m_InvalidName C.g_InvalidName) la_nil))) (la_cons (l_callB cr_isX (ok_isX C.it) (by rfl) C.z_isinstance (by decide +kernel) (la_cons (l_var 0) (la_cons (l_gl (by rfl) C.m_InvalidRange C.g_InvalidRange) la_nil))) (la_cons (l_callB cr_isX (ok_isX C.it) (by rfl) C.z_isinstance (by decide +kernel) (la_cons (l_var 0) (la_cons (l_gl (by rfl) C.m_InvalidProgram C.g_InvalidProgram) la_nil))) la_nil)))))) (ls_cons (ls_set 1 nd (l_bin op_addL ok_add (l_var 1) (l_lst (la_cons (l_callB cr_isX (ok_isX C.it) (by rfl) C.z_isinstance (by decide +kernel) (la_cons (l_var 0) (la_cons (l_gl (by rfl) C.m_InvalidStep C.g_InvalidStep) la_nil))) (la_cons (l_callB cr_isX (ok_isX C.it) (by rfl) C.z_isinstance (by decide +kernel) (la_cons (l_var 0) (la_cons (l_gl (by rfl) C.m_InvalidDeed C.g_InvalidDeed) la_nil))) (la_cons (l_callB cr_isX (ok_isX C.it) (by rfl) C.z_isinstance (by decide +kernel) (la_cons (l_var 0) (la_cons (l_gl (by rfl) C.m_InvalidPlace C.g_InvalidPlace) la_nil))) (la_cons (l_callB cr_isX (ok_isX C.it) (by rfl) C.z_isinstance (by decide +kernel) (la_cons (l_var 0) (la_cons (l_gl (by rfl) C.m_InvalidBound C.g_InvalidBound) la_nil))) la_nil))))))) (ls_cons (ls_set 1 nd (l_bin op_addL ok_add (l_var 1) (l_lst (la_cons (l_callB cr_isX (ok_isX C.it) (by rfl) C.z_isinstance (by decide +kernel) (la_cons (l_var 0) (la_cons (l_gl (by rfl) C.m_InvalidState C.g_InvalidState) la_nil))) (la_cons (l_callB cr_isX (ok_isX C.it) (by rfl) C.z_isinstance (by decide +kernel) (la_cons (l_var 0) (la_cons (l_gl (by rfl) C.m_InvalidRun C.g_InvalidRun) la_nil))) (la_cons (l_callB cr_isX (ok_isX C.it) (by rfl) C.z_isinstance (by decide +kernel) (la_cons (l_var 0) (la_cons (l_gl (by rfl) C.m_InvalidRow C.g_InvalidRow) la_nil))) (la_cons (l_callB cr_isX (ok_isX C.it) (by rfl) C.z_isinstance (by decide +kernel) (la_cons (l_var 0) (la_cons (l_gl (by rfl) C.m_InvalidTable C.g_InvalidTable) la_nil))) la_nil))))))) (ls_cons (ls_set 1 nd (l_bin op_addL ok_add (l_var 1) (l_lst (la_cons (l_callB cr_isX (ok_isX C.it) (by rfl) C.z_isinstance (by decide +kernel) (la_cons (l_var 0) (la_cons (l_gl (by rfl) C.m_InvalidOpen C.g_InvalidOpen) la_nil))) (la_cons (l_callB cr_isX (ok_isX C.it) (by rfl) C.z_isinstance (by decide +kernel) (la_cons (l_var 0) (la_cons (l_gl (by rfl) C.m_InvalidPlan C.g_InvalidPlan) la_nil))) (la_cons (l_callB cr_isX (ok_isX C.it) (by rfl) C.z_isinstance (by decide +kernel) (la_cons (l_var 0) (la_cons (l_gl (by rfl) C.m_InvalidPaper C.g_InvalidPaper) la_nil))) (la_cons (l_callB cr_isX (ok_isX C.it) (by rfl) C.z_isinstance (by decide +kernel) (la_cons (l_var 0) (la_cons (l_gl (by rfl) C.m_InvalidWidth C.g_InvalidWidth) la_nil))) la_nil))))))) (ls_cons (ls_set 1 nd (l_bin op_addL ok_add (l_var 1) (l_lst (la_cons (l_callB cr_isX (ok_isX C.it) (by rfl) C.z_isinstance (by decide +kernel) (la_cons (l_var 0) (la_cons (l_gl (by rfl) C.m_InvalidWish C.g_InvalidWish) la_nil))) (la_cons (l_callB cr_isX (ok_isX C.it) (by rfl) C.z_isinstance (by decide +kernel) (la_cons (l_var 0) (la_cons (l_gl (by rfl) C.m_InvalidText C.g_InvalidText) la_nil))) (la_cons (l_callB cr_isX (ok_isX C.it) (by rfl) C.z_isinstance (by decide +kernel) (la_cons (l_var 0) (la_cons (l_gl (by rfl) C.m_InvalidEdit C.g_InvalidEdit) la_nil))) (la_cons (l_callB cr_isX (ok_isX C.it) (by rfl) C.z_isinstance (by decide +kernel) (la_cons (l_var 0) (la_cons (l_gl (by rfl) C.m_Unlike C.g_Unlike) la_nil))) la_nil))))))) (ls_cons (ls_set 1 nd (l_bin op_addL ok_add (l_var 1) (l_lst (la_cons (l_callB cr_isX (ok_isX C.it) (by rfl) C.z_isinstance (by decide +kernel) (la_cons (l_var 0) (la_cons (l_gl (by rfl) C.m_TooMany C.g_TooMany) la_nil))) (la_cons (l_callB cr_isX (ok_isX C.it) (by rfl) C.z_isinstance (by decide +kernel) (la_cons (l_var 0) (la_cons (l_gl (by rfl) C.m_Stuck C.g_Stuck) la_nil))) la_nil))))) (ls_cons (ls_ret (l_bin op_addL ok_add (l_var 1) (l_lst (la_cons (l_callB cr_isX (ok_isX C.it) (by rfl) C.z_isinstance (by decide +kernel) (la_cons (l_var 0) (la_cons (l_gl (by rfl) C.m_NothingToUndo C.g_NothingToUndo) la_nil))) (la_cons (l_callB cr_isX (ok_isX C.it) (by rfl) C.z_isinstance (by decide +kernel) (la_cons (l_var 0) (la_cons (l_gl (by rfl) C.m_NothingToRedo C.g_NothingToRedo) la_nil))) la_nil))))) ls_nil)))))))
theorem ok__law_kinds (C : Facts w K mg base) : FnG P w K mg base 1 C.a__law_kinds C.fd__law_kinds P__law_kinds (spOf K 1 (c__law_kinds fu)) := (oku__law_kinds C).sealed
theorem oku__law_made (C : Facts w K mg base) : FnG P w K mg base 3 C.a__law_made C.fd__law_made P__law_made (spOf K 1 (u__law_made fu)) := fn_g C.F__law_made sc__law_made fun cdv A outer s H hr hG => by
  have nd := sc__law_made.nd
  exact (ls_cons (ls_set 1 nd (l_lst (la_cons (l_mk (C.d_InvalidNumber _) (hr.mono (by decide)) (by rfl) (la_cons (l_var 0) la_nil)) (la_cons (l_mk (C.d_InvalidName _) (hr.mono (by decide)) (by rfl) (la_cons (l_var 0) la_nil)) (la_cons (l_mk (C.d_InvalidRange _) (hr.mono (by decide)) (by rfl) (la_cons (l_var 0) la_nil)) (la_cons (l_mk (C.d_InvalidProgram _) (hr.mono (by decide)) (by rfl) (la_cons (l_var 0) la_nil)) (la_cons (l_mk (C.d_InvalidStep _) (hr.mono (by decide)) (by rfl) (la_cons (l_var 0) la_nil)) la_nil))))))) (ls_cons (ls_set 1 nd (l_bin op_addL ok_add (l_var 1) (l_lst (la_cons (l_mk (C.d_InvalidDeed _) (hr.mono (by decide)) (by rfl) (la_cons (l_var 0) la_nil)) (la_cons (l_mk (C.d_InvalidPlace _) (hr.mono (by decide)) (by rfl) (la_cons (l_var 0) la_nil)) (la_cons (l_mk (C.d_InvalidBound _) (hr.mono (by decide)) (by rfl) (la_cons (l_var 0) la_nil)) (la_cons (l_mk (C.d_InvalidState _) (hr.mono (by decide)) (by rfl) (la_cons (l_var 0) la_nil)) (la_cons (l_mk (C.d_InvalidRun _) (hr.mono (by decide)) (by rfl) (la_cons (l_var 0) la_nil)) la_nil)))))))) (ls_cons (ls_set 1 nd (l_bin op_addL ok_add (l_var 1) (l_lst (la_cons (l_mk (C.d_InvalidRow _) (hr.mono (by decide)) (by rfl) (la_cons (l_var 0) la_nil)) (la_cons (l_mk (C.d_InvalidTable _) (hr.mono (by decide)) (by rfl) (la_cons (l_var 0) la_nil)) (la_cons (l_mk (C.d_InvalidOpen _) (hr.mono (by decide)) (by rfl) (la_cons (l_var 0) la_nil)) (la_cons (l_mk (C.d_InvalidPlan _) (hr.mono (by decide)) (by rfl) (la_cons (l_var 0) la_nil)) (la_cons (l_mk (C.d_InvalidPaper _) (hr.mono (by decide)) (by rfl) (la_cons (l_var 0) la_nil)) la_nil)))))))) (ls_cons (ls_set 1 nd (l_bin op_addL ok_add (l_var 1) (l_lst (la_cons (l_mk (C.d_InvalidWidth _) (hr.mono (by decide)) (by rfl) (la_cons (l_var 0) la_nil)) (la_cons (l_mk (C.d_InvalidWish _) (hr.mono (by decide)) (by rfl) (la_cons (l_var 0) la_nil)) (la_cons (l_mk (C.d_InvalidText _) (hr.mono (by decide)) (by rfl) (la_cons (l_var 0) la_nil)) (la_cons (l_mk (C.d_InvalidEdit _) (hr.mono (by decide)) (by rfl) (la_cons (l_var 0) la_nil)) (la_cons (l_mk (C.d_Unlike _) (hr.mono (by decide)) (by rfl) (la_cons (l_var 0) la_nil)) la_nil)))))))) (ls_cons (ls_ret (l_bin op_addL ok_add (l_var 1) (l_lst (la_cons (l_mk (C.d_TooMany _) (hr.mono (by decide)) (by rfl) (la_cons (l_var 0) la_nil)) (la_cons (l_mk (C.d_Stuck _) (hr.mono (by decide)) (by rfl) (la_cons (l_var 0) la_nil)) la_nil))))) ls_nil)))))
theorem ok__law_made (C : Facts w K mg base) : FnG P w K mg base 3 C.a__law_made C.fd__law_made P__law_made (spOf K 1 (c__law_made fu)) := (oku__law_made C).sealed
theorem oku__law_hash (C : Facts w K mg base) : FnG P w K mg base 1 C.a__law_hash C.fd__law_hash P__law_hash (spOf K 2 (Com.u__law_hash fu)) := fn_g C.F__law_hash sc__law_hash fun cdv A outer s H hr hG => by
  have nd := sc__law_hash.nd
  exact (ls_cons (ls_set 2 nd (l_bin op_mod ok_mod (l_callTy call_int1 ok_int (by rfl) C.z_int (by decide +kernel) (la_cons (l_bin op_addL ok_add (l_bin op_addL ok_add (l_bin op_addL ok_add (l_bin op_mulW ok_mul (l_var 0) l_int) (l_bin op_mulW ok_mul (l_bin op_mulW ok_mul l_int (l_var 1)) (l_var 1))) (l_bin op_mulW ok_mul l_int (l_var 1))) l_int) la_nil)) l_int)) (ls_cons (ls_set 2 nd (l_bin op_mod ok_mod (l_callTy call_int1 ok_int (by rfl) C.z_int (by decide +kernel) (la_cons (l_bin op_addL ok_add (l_bin op_addL ok_add (l_bin op_mulW ok_mul (l_var 2) (l_var 2)) (l_bin op_mulW ok_mul l_int (l_var 1))) l_int) la_nil)) l_int)) (ls_cons (ls_ret (l_bin op_mod ok_mod (l_callTy call_int1 ok_int (by rfl) C.z_int (by decide +kernel) (la_cons (l_bin op_mulW ok_mul (l_var 2) l_int) la_nil)) l_int)) ls_nil)))
theorem ok__law_hash (C : Facts w K mg base) : FnG P w K mg base 1 C.a__law_hash C.fd__law_hash P__law_hash (spOf K 2 (Com.c__law_hash fu)) := (oku__law_hash C).sealed
theorem oku__law_random (C : Facts w K mg base) : FnG P w K mg base 2 C.a__law_random C.fd__law_random P__law_random (spOf K 2 (Com.u__law_random fu)) := fn_g C.F__law_random sc__law_random fun cdv A outer s H hr hG => by
  have nd := sc__law_random.nd
  exact (ls_cons (ls_if (lt_cmp op_gt ok_cmpI (l_ix (l_var 0) l_int) l_int (nomark _)) (ls_cons (ls_set 2 nd (l_bin op_mod ok_mod (l_callTy call_int1 ok_int (by rfl) C.z_int (by decide +kernel) (la_cons (l_ix (l_var 0) l_int) la_nil)) (l_var 1))) (ls_cons (ls_sub (l_bin op_fdivW ok_div (l_ix (l_var 0) l_int) (l_var 1)) (l_var 0) l_int (fun h1 h2 h3 => pg_sub h1 h2 h3)) (ls_cons (ls_ret (l_var 2)) ls_nil))) ls_nil) (ls_cons (ls_set 2 nd l_int) (ls_cons (ls_for fu PassesOwn.never rfl (li_range1 (by rfl) C.z_range (la_cons (l_bin op_addL ok_add l_int (l_bin op_fdivW ok_div (l_bits (l_var 1)) l_int)) la_nil)) (lg_nm 3 nd) (ls_cons (ls_sub (l_bin op_addL ok_add (l_ix (l_var 0) l_int) l_int) (l_var 0) l_int (fun h1 h2 h3 => pg_sub h1 h2 h3)) (ls_cons (ls_set 2 nd (l_bin op_addL ok_add (l_bin op_mulW ok_mul (l_var 2) l_int) (l_call (ok__law_hash C) (ar_sealed ar_fn) (hr.mono (by decide)) hG (by rfl) C.m__law_hash C.F__law_hash.kp (bi__law_hash C.F__law_hash) rfl (la_cons (l_ix (l_var 0) l_int) (la_cons (l_ix (l_var 0) l_int) la_nil))))) ls_nil))) (ls_cons (ls_ret (l_bin op_mod ok_mod (l_callTy call_int1 ok_int (by rfl) C.z_int (by decide +kernel) (la_cons (l_var 2) la_nil)) (l_var 1))) ls_nil))))
theorem ok__law_random (C : Facts w K mg base) : FnG P w K mg base 2 C.a__law_random C.fd__law_random P__law_random (spOf K 2 (Com.c__law_random fu)) := (oku__law_random C).sealed
theorem oku__law_row_right (C : Facts w K mg base) : FnG P w K mg base 2 C.a__law_row_right C.fd__law_row_right P__law_row_right (spOf K 2 (u__law_row_right fu)) := fn_g C.F__law_row_right sc__law_row_right fun cdv A outer s H hr hG => by
  have nd := sc__law_row_right.nd
  exact (ls_cons (ls_for fu PassesOwn.never rfl (li_enum (by rfl) C.z_enumerate (la_cons (l_var 0) la_nil)) (lg_tp rfl (lgs_cons (lg_nm 2 nd) (lgs_cons (lg_nm 3 nd) lgs_nil))) (ls_cons (ls_if (PW.pt (lw_or (lt_not (lt_tru (l_callB cr_isX (ok_isX C.it) (by rfl) C.z_isinstance (by decide +kernel) (la_cons (l_var 3) (la_cons (l_gl (by rfl) C.m_BoundError C.g_BoundError) la_nil))))) (lw_or1 (lt_not (lt_tru (l_callB cr_isX (ok_isX C.it) (by rfl) C.z_isinstance (by decide +kernel) (la_cons (l_var 3) (la_cons (l_ty (by rfl) C.z_ValueError (by decide +kernel)) la_nil)))))))) (ls_cons (ls_ret l_bl) ls_nil) ls_nil) (ls_cons (ls_if (lt_cmp (op_neA hr.units) ok_nev (l_call (ok__law_kinds C) (ar_sealed ar_fn) (hr.mono (by decide)) hG (by rfl) C.m__law_kinds C.F__law_kinds.kp (bi__law_kinds C.F__law_kinds) rfl (la_cons (l_var 3) la_nil)) (l_lc fu (own := [("place", 4)]) rfl nd (li_range1 (by rfl) C.z_range (la_cons l_int la_nil)) (blkOk_by (by kernel_rfl)) (by decide) (fun _ _ _ _ _ => (lg_nm 4 nd)) (fun _ _ _ _ _ => lp_nil) (fun _ _ _ _ _ => (l_cmp (op_eqA hr.units) ok_eqv (l_var 4) (l_var 2) (nomark _)))) (nomark _)) (ls_cons (ls_ret l_bl) ls_nil) ls_nil) (ls_cons (ls_if (PW.pt (lw_or (lt_not (lt_cmp (op_eqW hr.units) ok_eqW (l_valT C.er (l_var 3)) (l_var 1) (nomark _))) (lw_or1 (lt_cmp (op_neA hr.units) ok_nev (l_callB (call_reprW hG hr.units) ok_reprW (by rfl) C.z_repr (by decide +kernel) (la_cons (l_valT C.er (l_var 3)) la_nil)) (l_callB (call_reprW hG hr.units) ok_reprW (by rfl) C.z_repr (by decide +kernel) (la_cons (l_var 1) la_nil)) (nomark _))))) (ls_cons (ls_ret l_bl) ls_nil) ls_nil) ls_nil)))) (ls_cons (ls_ret (l_cmp (op_eqA hr.units) ok_eqv (l_callB cr_len ok_len (by rfl) C.z_len (by decide +kernel) (la_cons (l_var 0) la_nil)) l_int (nomark _))) ls_nil))
theorem ok__law_row_right (C : Facts w K mg base) : FnG P w K mg base 2 C.a__law_row_right C.fd__law_row_right P__law_row_right (spOf K 2 (c__law_row_right fu)) := (oku__law_row_right C).sealed
theorem oku_law (C : Facts w K mg base) : FnG P w K mg base 4 C.a_law C.fd_law P_law (spOf K 1 (u_law fu)) := fn_g C.F_law sc_law fun cdv A outer s H hr hG => by
  have nd := sc_law.nd
  exact (ls_cons (ls_set 1 nd (l_call (okv__law_generator C) (ar_sealedR ar_fn) (hr.mono (by decide)) hG (by rfl) C.m__law_generator C.F__law_generator.kp (bi__law_generator C.F__law_generator) rfl (la_cons (l_var 0) (la_cons l_int la_nil)))) (ls_cons (ls_set 2 nd (l_call (ok__law_random C) (ar_sealed ar_fn) (hr.mono (by decide)) hG (by rfl) C.m__law_random C.F__law_random.kp (bi__law_random C.F__law_random) rfl (la_cons (l_var 1) (la_cons (l_bin op_powW ok_pow l_int l_int) la_nil)))) (ls_cons (ls_for fu PassesOwn.never rfl (li_any (l_lst (la_cons l_non (la_cons (l_var 2) (la_cons (l_bin op_mulS ok_mulS l_str (l_call (ok__law_random C) (ar_sealed ar_fn) (hr.mono (by decide)) hG (by rfl) C.m__law_random C.F__law_random.kp (bi__law_random C.F__law_random) rfl (la_cons (l_var 1) (la_cons l_int la_nil)))) (la_cons (l_tup (la_cons l_str (la_cons (l_lst (la_cons (l_var 2) la_nil)) la_nil))) (la_cons (l_disp (fs := [((eC (.str "a")), (eC (.int 1)))]) (pps_cons l_str l_int pps_nil)) (la_cons l_bl la_nil)))))))) (lg_nm 3 nd) (ls_cons (ls_if (PW.pt (lw_or (lt_not (lt_tru (l_call (ok__law_row_right C) (ar_sealed ar_fn) (hr.mono (by decide)) hG (by rfl) C.m__law_row_right C.F__law_row_right.kp (bi__law_row_right C.F__law_row_right) rfl (la_cons (l_call (ok__law_made C) (ar_sealed ar_fn) (hr.mono (by decide)) hG (by rfl) C.m__law_made C.F__law_made.kp (bi__law_made C.F__law_made) rfl (la_cons (l_var 3) la_nil)) (la_cons (l_var 3) la_nil))))) (lw_or1 (lt_not (lt_tru (l_call (ok__law_row_right C) (ar_sealed ar_fn) (hr.mono (by decide)) hG (by rfl) C.m__law_row_right C.F__law_row_right.kp (bi__law_row_right C.F__law_row_right) rfl (la_cons (l_call (ok__law_by_name C) (ar_sealed ar_fn) (hr.mono (by decide)) hG (by rfl) C.m__law_by_name C.F__law_by_name.kp (bi__law_by_name C.F__law_by_name) rfl (la_cons (l_var 3) la_nil)) (la_cons (l_var 3) la_nil)))))))) (ls_cons (ls_ret l_bl) ls_nil) ls_nil) ls_nil)) (ls_cons (ls_if (lt_not (lt_tru (l_call (ok__law_row_right C) (ar_sealed ar_fn) (hr.mono (by decide)) hG (by rfl) C.m__law_row_right C.F__law_row_right.kp (bi__law_row_right C.F__law_row_right) rfl (la_cons (l_call0 (ok__law_empty C) (ar_sealed ar_fn) (hr.mono (by decide)) hG (by rfl) C.m__law_empty C.F__law_empty.kp (bi__law_empty C.F__law_empty)) (la_cons l_non la_nil))))) (ls_cons (ls_ret l_bl) ls_nil) ls_nil) (ls_cons (ls_for fu PassesOwn.never rfl (li_any (l_lst (la_cons (l_mkN0 C.o_BoundError (by rfl)) (la_cons (l_mkN C.o_BoundError (by rfl) (la_cons l_str (la_cons (l_var 2) la_nil))) la_nil)))) (lg_nm 4 nd) (ls_cons (ls_if (PW.pt (lw_or (lt_not (lt_tru (l_callB cr_isX (ok_isX C.it) (by rfl) C.z_isinstance (by decide +kernel) (la_cons (l_var 4) (la_cons (l_ty (by rfl) C.z_ValueError (by decide +kernel)) la_nil))))) (lw_or1 (lt_cmp (op_in2 hr.units1) ok_in2 l_bl (l_call (ok__law_kinds C) (ar_sealed ar_fn) (hr.mono (by decide)) hG (by rfl) C.m__law_kinds C.F__law_kinds.kp (bi__law_kinds C.F__law_kinds) rfl (la_cons (l_var 4) la_nil)) (by with_unfolding_all rfl))))) (ls_cons (ls_ret l_bl) ls_nil) ls_nil) ls_nil)) (ls_cons (ls_set 5 nd (l_lst (la_cons (l_var 2) la_nil))) (ls_cons (ls_set 6 nd (l_call (ok__law_made C) (ar_sealed ar_fn) (hr.mono (by decide)) hG (by rfl) C.m__law_made C.F__law_made.kp (bi__law_made C.F__law_made) rfl (la_cons (l_var 5) la_nil))) (ls_cons (ls_expr (l_methL PySem.F.slot_list_append PySem.F.type_list_append mt_append ok_append (l_var 5) (la_cons l_int la_nil))) (ls_cons (ls_if (lt_cmp (op_neA hr.units) ok_nev (l_lc fu (own := [("error", 4)]) rfl nd (li_any (l_var 6)) (blkOk_by (by kernel_rfl)) (by decide) (fun _ _ _ _ _ => (lg_nm 4 nd)) (fun _ _ _ _ _ => (lp_one (lt_cmp (op_neA hr.units) ok_nev (l_valT C.er (l_var 4)) (l_lst (la_cons (l_var 2) (la_cons l_int la_nil))) (nomark _)))) (fun _ _ _ _ _ => (l_var 4))) (l_lst la_nil) (nomark _)) (ls_cons (ls_ret l_bl) ls_nil) ls_nil) (ls_cons (ls_for fu PassesOwn.never rfl (li_enum (by rfl) C.z_enumerate (la_cons (l_lst (la_cons (l_mkN0 C.o_NothingToUndo (by rfl)) (la_cons (l_mkN0 C.o_NothingToRedo (by rfl)) la_nil))) la_nil)) (lg_tp rfl (lgs_cons (lg_nm 7 nd) (lgs_cons (lg_nm 4 nd) lgs_nil))) (ls_cons (ls_if (PW.pt (lw_or (lt_not (lt_tru (l_callB cr_isX (ok_isX C.it) (by rfl) C.z_isinstance (by decide +kernel) (la_cons (l_var 4) (la_cons (l_gl (by rfl) C.m_BoundError C.g_BoundError) la_nil))))) (lw_or1 (lt_not (lt_tru (l_callB cr_isX (ok_isX C.it) (by rfl) C.z_isinstance (by decide +kernel) (la_cons (l_var 4) (la_cons (l_ty (by rfl) C.z_ValueError (by decide +kernel)) la_nil)))))))) (ls_cons (ls_ret l_bl) ls_nil) ls_nil) (ls_cons (ls_if (lt_cmp (op_neA hr.units) ok_nev (l_call (ok__law_kinds C) (ar_sealed ar_fn) (hr.mono (by decide)) hG (by rfl) C.m__law_kinds C.F__law_kinds.kp (bi__law_kinds C.F__law_kinds) rfl (la_cons (l_var 4) la_nil)) (l_lc fu (own := [("place", 8)]) rfl nd (li_range1 (by rfl) C.z_range (la_cons l_int la_nil)) (blkOk_by (by kernel_rfl)) (by decide) (fun _ _ _ _ _ => (lg_nm 8 nd)) (fun _ _ _ _ _ => lp_nil) (fun _ _ _ _ _ => (l_cmp (op_eqA hr.units) ok_eqv (l_var 8) (l_bin op_addL ok_add l_int (l_var 7)) (nomark _)))) (nomark _)) (ls_cons (ls_ret l_bl) ls_nil) ls_nil) ls_nil))) (ls_cons (ls_ret l_bl) ls_nil)))))))))))
theorem ok_law (C : Facts w K mg base) : FnG P w K mg base 4 C.a_law C.fd_law P_law (spOf K 1 (c_law fu)) := (oku_law C).sealed
end
theorem all_mk {fu : Nat} {P : Program} {w : World} {K : PySem.W.Frag} {h : Heap} {mg : Str → Option Value} {fa : Addr} (X : K.In h) (G : h.Ns mainGlobals mg) (hfa : mg "law" = some (.ref fa))
    {f0 : Addr} {od0 an0 : Option Addr} {sl0 : Array (Option Value)} {oc0 kV0 dc0 pm0 cd0 ct0 : Value}
    {f1 : Addr} {od1 an1 : Option Addr} {sl1 : Array (Option Value)} {oc1 kV1 dc1 pm1 cd1 ct1 : Value}
    {f2 : Addr} {od2 an2 : Option Addr} {sl2 : Array (Option Value)} {oc2 kV2 dc2 pm2 cd2 ct2 : Value}
    {f3 : Addr} {od3 an3 : Option Addr} {sl3 : Array (Option Value)} {oc3 kV3 dc3 pm3 cd3 ct3 : Value}
    {f4 : Addr} {od4 an4 : Option Addr} {sl4 : Array (Option Value)} {oc4 kV4 dc4 pm4 cd4 ct4 : Value}
    {f5 : Addr} {od5 an5 : Option Addr} {sl5 : Array (Option Value)} {oc5 kV5 dc5 pm5 cd5 ct5 : Value}
    {f6 : Addr} {od6 an6 : Option Addr} {sl6 : Array (Option Value)} {oc6 kV6 dc6 pm6 cd6 ct6 : Value}
    {f7 : Addr} {od7 an7 : Option Addr} {sl7 : Array (Option Value)} {oc7 kV7 dc7 pm7 cd7 ct7 : Value}
    {f8 : Addr} {od8 an8 : Option Addr} {sl8 : Array (Option Value)} {oc8 kV8 dc8 pm8 cd8 ct8 : Value}
    {f9 : Addr} {od9 an9 : Option Addr} {sl9 : Array (Option Value)} {oc9 kV9 dc9 pm9 cd9 ct9 : Value}
    {q0 : Addr}
    {q1 : Addr}
    {qo1 qt1 : Obj} {qi1 qT1 : Addr} {qm1 : Nat} {qc1 : Value} {qd1 qn1 : Option Addr} {qs1 : Array (Option Value)} {qk1 qb1 qp1 qv1 qw1 : Value}
    {q2 : Addr}
    {qo2 qt2 : Obj} {qi2 qT2 : Addr} {qm2 : Nat} {qc2 : Value} {qd2 qn2 : Option Addr} {qs2 : Array (Option Value)} {qk2 qb2 qp2 qv2 qw2 : Value}
    {q3 : Addr}
    {qo3 qt3 : Obj} {qi3 qT3 : Addr} {qm3 : Nat} {qc3 : Value} {qd3 qn3 : Option Addr} {qs3 : Array (Option Value)} {qk3 qb3 qp3 qv3 qw3 : Value}
    {q4 : Addr}
    {qo4 qt4 : Obj} {qi4 qT4 : Addr} {qm4 : Nat} {qc4 : Value} {qd4 qn4 : Option Addr} {qs4 : Array (Option Value)} {qk4 qb4 qp4 qv4 qw4 : Value}
    {q5 : Addr}
    {qo5 qt5 : Obj} {qi5 qT5 : Addr} {qm5 : Nat} {qc5 : Value} {qd5 qn5 : Option Addr} {qs5 : Array (Option Value)} {qk5 qb5 qp5 qv5 qw5 : Value}
    {q6 : Addr}
    {qo6 qt6 : Obj} {qi6 qT6 : Addr} {qm6 : Nat} {qc6 : Value} {qd6 qn6 : Option Addr} {qs6 : Array (Option Value)} {qk6 qb6 qp6 qv6 qw6 : Value}
    {q7 : Addr}
    {qo7 qt7 : Obj} {qi7 qT7 : Addr} {qm7 : Nat} {qc7 : Value} {qd7 qn7 : Option Addr} {qs7 : Array (Option Value)} {qk7 qb7 qp7 qv7 qw7 : Value}
    {q8 : Addr}
    {qo8 qt8 : Obj} {qi8 qT8 : Addr} {qm8 : Nat} {qc8 : Value} {qd8 qn8 : Option Addr} {qs8 : Array (Option Value)} {qk8 qb8 qp8 qv8 qw8 : Value}
    {q9 : Addr}
    {qo9 qt9 : Obj} {qi9 qT9 : Addr} {qm9 : Nat} {qc9 : Value} {qd9 qn9 : Option Addr} {qs9 : Array (Option Value)} {qk9 qb9 qp9 qv9 qw9 : Value}
    {q10 : Addr}
    {qo10 qt10 : Obj} {qi10 qT10 : Addr} {qm10 : Nat} {qc10 : Value} {qd10 qn10 : Option Addr} {qs10 : Array (Option Value)} {qk10 qb10 qp10 qv10 qw10 : Value}
    {q11 : Addr}
    {qo11 qt11 : Obj} {qi11 qT11 : Addr} {qm11 : Nat} {qc11 : Value} {qd11 qn11 : Option Addr} {qs11 : Array (Option Value)} {qk11 qb11 qp11 qv11 qw11 : Value}
    {q12 : Addr}
    {qo12 qt12 : Obj} {qi12 qT12 : Addr} {qm12 : Nat} {qc12 : Value} {qd12 qn12 : Option Addr} {qs12 : Array (Option Value)} {qk12 qb12 qp12 qv12 qw12 : Value}
    {q13 : Addr}
    {qo13 qt13 : Obj} {qi13 qT13 : Addr} {qm13 : Nat} {qc13 : Value} {qd13 qn13 : Option Addr} {qs13 : Array (Option Value)} {qk13 qb13 qp13 qv13 qw13 : Value}
    {q14 : Addr}
    {qo14 qt14 : Obj} {qi14 qT14 : Addr} {qm14 : Nat} {qc14 : Value} {qd14 qn14 : Option Addr} {qs14 : Array (Option Value)} {qk14 qb14 qp14 qv14 qw14 : Value}
    {q15 : Addr}
    {qo15 qt15 : Obj} {qi15 qT15 : Addr} {qm15 : Nat} {qc15 : Value} {qd15 qn15 : Option Addr} {qs15 : Array (Option Value)} {qk15 qb15 qp15 qv15 qw15 : Value}
    {q16 : Addr}
    {qo16 qt16 : Obj} {qi16 qT16 : Addr} {qm16 : Nat} {qc16 : Value} {qd16 qn16 : Option Addr} {qs16 : Array (Option Value)} {qk16 qb16 qp16 qv16 qw16 : Value}
    {q17 : Addr}
    {qo17 qt17 : Obj} {qi17 qT17 : Addr} {qm17 : Nat} {qc17 : Value} {qd17 qn17 : Option Addr} {qs17 : Array (Option Value)} {qk17 qb17 qp17 qv17 qw17 : Value}
    {q18 : Addr}
    {qo18 qt18 : Obj} {qi18 qT18 : Addr} {qm18 : Nat} {qc18 : Value} {qd18 qn18 : Option Addr} {qs18 : Array (Option Value)} {qk18 qb18 qp18 qv18 qw18 : Value}
    {q19 : Addr}
    {qo19 qt19 : Obj} {qi19 qT19 : Addr} {qm19 : Nat} {qc19 : Value} {qd19 qn19 : Option Addr} {qs19 : Array (Option Value)} {qk19 qb19 qp19 qv19 qw19 : Value}
    {q20 : Addr}
    {qo20 qt20 : Obj} {qi20 qT20 : Addr} {qm20 : Nat} {qc20 : Value} {qd20 qn20 : Option Addr} {qs20 : Array (Option Value)} {qk20 qb20 qp20 qv20 qw20 : Value}
    {q21 : Addr}
    {qo21 qt21 : Obj} {qi21 qT21 : Addr} {qm21 : Nat} {qc21 : Value} {qd21 qn21 : Option Addr} {qs21 : Array (Option Value)} {qk21 qb21 qp21 qv21 qw21 : Value}
    {q22 : Addr}
    {qo22 qt22 : Obj} {qi22 qT22 : Addr} {qm22 : Nat} {qc22 : Value} {qd22 qn22 : Option Addr} {qs22 : Array (Option Value)} {qk22 qb22 qp22 qv22 qw22 : Value}
    {q23 : Addr}
    {q24 : Addr}
    (a0 : PySem.W.nsIn K mainGlobals "_law_by_name" = some (some (.ref f0))) (l0 : K.lookup f0 = some ⟨oc0, od0, .func (PySem.W.fnOf "_law_by_name" "_law_by_name" (defArgs s__law_by_name) (defBody s__law_by_name) (defScope s__law_by_name) .none kV0 dc0 pm0 an0 cd0 ct0), sl0⟩) (c0 : PySem.W.codeIn K cd0 "_law_by_name" = true) (k0 : PySem.W.keepIn K (.ref f0) = true)
    (a1 : PySem.W.nsIn K mainGlobals "_law_empty" = some (some (.ref f1))) (l1 : K.lookup f1 = some ⟨oc1, od1, .func (PySem.W.fnOf "_law_empty" "_law_empty" (defArgs s__law_empty) (defBody s__law_empty) (defScope s__law_empty) .none kV1 dc1 pm1 an1 cd1 ct1), sl1⟩) (c1 : PySem.W.codeIn K cd1 "_law_empty" = true) (k1 : PySem.W.keepIn K (.ref f1) = true)
    (a2 : PySem.W.nsIn K mainGlobals "_law_cell" = some (some (.ref f2))) (l2 : K.lookup f2 = some ⟨oc2, od2, .func (PySem.W.fnOf "_law_cell" "_law_cell" (defArgs s__law_cell) (defBody s__law_cell) (defScope s__law_cell) .none kV2 dc2 pm2 an2 cd2 ct2), sl2⟩) (c2 : PySem.W.codeIn K cd2 "_law_cell" = true) (k2 : PySem.W.keepIn K (.ref f2) = true)
    (a3 : PySem.W.nsIn K mainGlobals "_law_generator" = some (some (.ref f3))) (l3 : K.lookup f3 = some ⟨oc3, od3, .func (PySem.W.fnOf "_law_generator" "_law_generator" (defArgs s__law_generator) (defBody s__law_generator) (defScope s__law_generator) .none kV3 dc3 pm3 an3 cd3 ct3), sl3⟩) (c3 : PySem.W.codeIn K cd3 "_law_generator" = true) (k3 : PySem.W.keepIn K (.ref f3) = true)
    (a4 : PySem.W.nsIn K mainGlobals "_law_kinds" = some (some (.ref f4))) (l4 : K.lookup f4 = some ⟨oc4, od4, .func (PySem.W.fnOf "_law_kinds" "_law_kinds" (defArgs s__law_kinds) (defBody s__law_kinds) (defScope s__law_kinds) .none kV4 dc4 pm4 an4 cd4 ct4), sl4⟩) (c4 : PySem.W.codeIn K cd4 "_law_kinds" = true) (k4 : PySem.W.keepIn K (.ref f4) = true)
    (a5 : PySem.W.nsIn K mainGlobals "_law_made" = some (some (.ref f5))) (l5 : K.lookup f5 = some ⟨oc5, od5, .func (PySem.W.fnOf "_law_made" "_law_made" (defArgs s__law_made) (defBody s__law_made) (defScope s__law_made) .none kV5 dc5 pm5 an5 cd5 ct5), sl5⟩) (c5 : PySem.W.codeIn K cd5 "_law_made" = true) (k5 : PySem.W.keepIn K (.ref f5) = true)
    (a6 : PySem.W.nsIn K mainGlobals "_law_hash" = some (some (.ref f6))) (l6 : K.lookup f6 = some ⟨oc6, od6, .func (PySem.W.fnOf "_law_hash" "_law_hash" (defArgs s__law_hash) (defBody s__law_hash) (defScope s__law_hash) .none kV6 dc6 pm6 an6 cd6 ct6), sl6⟩) (c6 : PySem.W.codeIn K cd6 "_law_hash" = true) (k6 : PySem.W.keepIn K (.ref f6) = true)
    (a7 : PySem.W.nsIn K mainGlobals "_law_random" = some (some (.ref f7))) (l7 : K.lookup f7 = some ⟨oc7, od7, .func (PySem.W.fnOf "_law_random" "_law_random" (defArgs s__law_random) (defBody s__law_random) (defScope s__law_random) .none kV7 dc7 pm7 an7 cd7 ct7), sl7⟩) (c7 : PySem.W.codeIn K cd7 "_law_random" = true) (k7 : PySem.W.keepIn K (.ref f7) = true)
    (a8 : PySem.W.nsIn K mainGlobals "_law_row_right" = some (some (.ref f8))) (l8 : K.lookup f8 = some ⟨oc8, od8, .func (PySem.W.fnOf "_law_row_right" "_law_row_right" (defArgs s__law_row_right) (defBody s__law_row_right) (defScope s__law_row_right) .none kV8 dc8 pm8 an8 cd8 ct8), sl8⟩) (c8 : PySem.W.codeIn K cd8 "_law_row_right" = true) (k8 : PySem.W.keepIn K (.ref f8) = true)
    (a9 : PySem.W.nsIn K mainGlobals "law" = some (some (.ref f9))) (l9 : K.lookup f9 = some ⟨oc9, od9, .func (PySem.W.fnOf "law" "law" (defArgs s_law) (defBody s_law) (defScope s_law) .none kV9 dc9 pm9 an9 cd9 ct9), sl9⟩) (c9 : PySem.W.codeIn K cd9 "law" = true) (k9 : PySem.W.keepIn K (.ref f9) = true)
    (z_ValueError : PySem.W.nsIn K mainGlobals "ValueError" = some none)
    (z_enumerate : PySem.W.nsIn K mainGlobals "enumerate" = some none)
    (z_int : PySem.W.nsIn K mainGlobals "int" = some none)
    (z_isinstance : PySem.W.nsIn K mainGlobals "isinstance" = some none)
    (z_len : PySem.W.nsIn K mainGlobals "len" = some none)
    (z_max : PySem.W.nsIn K mainGlobals "max" = some none)
    (z_range : PySem.W.nsIn K mainGlobals "range" = some none)
    (z_repr : PySem.W.nsIn K mainGlobals "repr" = some none)
    (z_sum : PySem.W.nsIn K mainGlobals "sum" = some none)
    (ca0 : PySem.W.nsIn K mainGlobals "BoundError" = some (some (.ref q0)))
    (ch0 : PySem.W.hasDictIn K q0 = true) (ce0 : PySem.W.subIn K (.ref q0) (.type "BaseException") = some true) (cy0 : PySem.W.typeIn K (.ref q0) = some (.type "type"))
    (cn0 : PySem.W.subIn K (.type "NoneType") (.ref q0) = some false)
    (cg0 : PySem.W.findIn K (.ref q0) "__getattribute__" = some (some (.builtin "BaseException.__getattribute__")))
    (cG0 : PySem.W.findIn K (.ref q0) "__getattr__" = some none)
    (cc0 : PySem.W.findIn K (.ref q0) "__class__" = some (some (.builtin "object.__class__")))
    (cm0 : PySem.W.mroIn K q0 (.type "object") = some true)
    (cv0 : PySem.W.findIn K (.ref q0) "value" = some none)
    (ck0 : PySem.W.keepIn K (.ref q0) = true)
    (cE0 : PySem.W.subIn K (.ref q0) (.type "ValueError") = some true)
    (cq0 : PySem.W.excIn K q0 [.type "ValueError", .type "Exception", .type "BaseException", .type "object"] "ValueError.__new__" = true)
    (ca1 : PySem.W.nsIn K mainGlobals "InvalidNumber" = some (some (.ref q1)))
    (ch1 : PySem.W.hasDictIn K q1 = true) (ce1 : PySem.W.subIn K (.ref q1) (.type "BaseException") = some true) (cy1 : PySem.W.typeIn K (.ref q1) = some (.type "type"))
    (cn1 : PySem.W.subIn K (.type "NoneType") (.ref q1) = some false)
    (cg1 : PySem.W.findIn K (.ref q1) "__getattribute__" = some (some (.builtin "BaseException.__getattribute__")))
    (cG1 : PySem.W.findIn K (.ref q1) "__getattr__" = some none)
    (cc1 : PySem.W.findIn K (.ref q1) "__class__" = some (some (.builtin "object.__class__")))
    (cm1 : PySem.W.mroIn K q1 (.type "object") = some true)
    (cv1 : PySem.W.findIn K (.ref q1) "value" = some none)
    (cl1 : K.lookup q1 = some qo1)
    (co1 : OexO q1 qo1)
    (cs1 : PySem.W.findIn K (.ref q1) "__setattr__" = some (some (.builtin "object.__setattr__")))
    (ck1 : PySem.W.keepIn K (.ref q1) = true)
    (cE1 : PySem.W.subIn K (.ref q1) (.type "ValueError") = some true)
    (cS1 : PySem.W.subIn K (.ref q1) (.ref q1) = some true)
    (ii1 : PySem.W.findIn K (.ref q1) "__init__" = some (some (.ref qi1)))
    (iy1 : PySem.W.typeIn K (.ref qi1) = some (.type "function"))
    (il1 : K.lookup qi1 = some ⟨qc1, qd1, .func (PySem.W.fnOf "__init__" "InvalidNumber.__init__" (defArgs s_init_InvalidNumber) (defBody s_init_InvalidNumber) (defScope s_init_InvalidNumber) (.ref qT1) qk1 qb1 qp1 qn1 qv1 qw1), qs1⟩)
    (ic1 : PySem.W.codeIn K qv1 "InvalidNumber.__init__" = true)
    (ik1 : PySem.W.keepIn K (.ref qi1) = true)
    (iT1 : K.lookup qT1 = some qt1)
    (iD1 : qt1.data = .seq #[Value.none] qm1)
    (ca2 : PySem.W.nsIn K mainGlobals "InvalidName" = some (some (.ref q2)))
    (ch2 : PySem.W.hasDictIn K q2 = true) (ce2 : PySem.W.subIn K (.ref q2) (.type "BaseException") = some true) (cy2 : PySem.W.typeIn K (.ref q2) = some (.type "type"))
    (cn2 : PySem.W.subIn K (.type "NoneType") (.ref q2) = some false)
    (cg2 : PySem.W.findIn K (.ref q2) "__getattribute__" = some (some (.builtin "BaseException.__getattribute__")))
    (cG2 : PySem.W.findIn K (.ref q2) "__getattr__" = some none)
    (cc2 : PySem.W.findIn K (.ref q2) "__class__" = some (some (.builtin "object.__class__")))
    (cm2 : PySem.W.mroIn K q2 (.type "object") = some true)
    (cv2 : PySem.W.findIn K (.ref q2) "value" = some none)
    (cl2 : K.lookup q2 = some qo2)
    (co2 : OexO q2 qo2)
    (cs2 : PySem.W.findIn K (.ref q2) "__setattr__" = some (some (.builtin "object.__setattr__")))
    (ck2 : PySem.W.keepIn K (.ref q2) = true)
    (cE2 : PySem.W.subIn K (.ref q2) (.type "ValueError") = some true)
    (cS2 : PySem.W.subIn K (.ref q2) (.ref q2) = some true)
    (ii2 : PySem.W.findIn K (.ref q2) "__init__" = some (some (.ref qi2)))
    (iy2 : PySem.W.typeIn K (.ref qi2) = some (.type "function"))
    (il2 : K.lookup qi2 = some ⟨qc2, qd2, .func (PySem.W.fnOf "__init__" "InvalidName.__init__" (defArgs s_init_InvalidName) (defBody s_init_InvalidName) (defScope s_init_InvalidName) (.ref qT2) qk2 qb2 qp2 qn2 qv2 qw2), qs2⟩)
    (ic2 : PySem.W.codeIn K qv2 "InvalidName.__init__" = true)
    (ik2 : PySem.W.keepIn K (.ref qi2) = true)
    (iT2 : K.lookup qT2 = some qt2)
    (iD2 : qt2.data = .seq #[Value.none] qm2)
    (ca3 : PySem.W.nsIn K mainGlobals "InvalidRange" = some (some (.ref q3)))
    (ch3 : PySem.W.hasDictIn K q3 = true) (ce3 : PySem.W.subIn K (.ref q3) (.type "BaseException") = some true) (cy3 : PySem.W.typeIn K (.ref q3) = some (.type "type"))
    (cn3 : PySem.W.subIn K (.type "NoneType") (.ref q3) = some false)
    (cg3 : PySem.W.findIn K (.ref q3) "__getattribute__" = some (some (.builtin "BaseException.__getattribute__")))
    (cG3 : PySem.W.findIn K (.ref q3) "__getattr__" = some none)
    (cc3 : PySem.W.findIn K (.ref q3) "__class__" = some (some (.builtin "object.__class__")))
    (cm3 : PySem.W.mroIn K q3 (.type "object") = some true)
    (cv3 : PySem.W.findIn K (.ref q3) "value" = some none)
    (cl3 : K.lookup q3 = some qo3)
    (co3 : OexO q3 qo3)
    (cs3 : PySem.W.findIn K (.ref q3) "__setattr__" = some (some (.builtin "object.__setattr__")))
    (ck3 : PySem.W.keepIn K (.ref q3) = true)
    (cE3 : PySem.W.subIn K (.ref q3) (.type "ValueError") = some true)
    (cS3 : PySem.W.subIn K (.ref q3) (.ref q3) = some true)
    (ii3 : PySem.W.findIn K (.ref q3) "__init__" = some (some (.ref qi3)))
    (iy3 : PySem.W.typeIn K (.ref qi3) = some (.type "function"))
    (il3 : K.lookup qi3 = some ⟨qc3, qd3, .func (PySem.W.fnOf "__init__" "InvalidRange.__init__" (defArgs s_init_InvalidRange) (defBody s_init_InvalidRange) (defScope s_init_InvalidRange) (.ref qT3) qk3 qb3 qp3 qn3 qv3 qw3), qs3⟩)
    (ic3 : PySem.W.codeIn K qv3 "InvalidRange.__init__" = true)
    (ik3 : PySem.W.keepIn K (.ref qi3) = true)
    (iT3 : K.lookup qT3 = some qt3)
    (iD3 : qt3.data = .seq #[Value.none] qm3)
    (ca4 : PySem.W.nsIn K mainGlobals "InvalidProgram" = some (some (.ref q4)))
    (ch4 : PySem.W.hasDictIn K q4 = true) (ce4 : PySem.W.subIn K (.ref q4) (.type "BaseException") = some true) (cy4 : PySem.W.typeIn K (.ref q4) = some (.type "type"))
    (cn4 : PySem.W.subIn K (.type "NoneType") (.ref q4) = some false)
    (cg4 : PySem.W.findIn K (.ref q4) "__getattribute__" = some (some (.builtin "BaseException.__getattribute__")))
    (cG4 : PySem.W.findIn K (.ref q4) "__getattr__" = some none)
    (cc4 : PySem.W.findIn K (.ref q4) "__class__" = some (some (.builtin "object.__class__")))
    (cm4 : PySem.W.mroIn K q4 (.type "object") = some true)
    (cv4 : PySem.W.findIn K (.ref q4) "value" = some none)
    (cl4 : K.lookup q4 = some qo4)
    (co4 : OexO q4 qo4)
    (cs4 : PySem.W.findIn K (.ref q4) "__setattr__" = some (some (.builtin "object.__setattr__")))
    (ck4 : PySem.W.keepIn K (.ref q4) = true)
    (cE4 : PySem.W.subIn K (.ref q4) (.type "ValueError") = some true)
    (cS4 : PySem.W.subIn K (.ref q4) (.ref q4) = some true)
    (ii4 : PySem.W.findIn K (.ref q4) "__init__" = some (some (.ref qi4)))
    (iy4 : PySem.W.typeIn K (.ref qi4) = some (.type "function"))
    (il4 : K.lookup qi4 = some ⟨qc4, qd4, .func (PySem.W.fnOf "__init__" "InvalidProgram.__init__" (defArgs s_init_InvalidProgram) (defBody s_init_InvalidProgram) (defScope s_init_InvalidProgram) (.ref qT4) qk4 qb4 qp4 qn4 qv4 qw4), qs4⟩)
    (ic4 : PySem.W.codeIn K qv4 "InvalidProgram.__init__" = true)
    (ik4 : PySem.W.keepIn K (.ref qi4) = true)
    (iT4 : K.lookup qT4 = some qt4)
    (iD4 : qt4.data = .seq #[Value.none] qm4)
    (ca5 : PySem.W.nsIn K mainGlobals "InvalidStep" = some (some (.ref q5)))
    (ch5 : PySem.W.hasDictIn K q5 = true) (ce5 : PySem.W.subIn K (.ref q5) (.type "BaseException") = some true) (cy5 : PySem.W.typeIn K (.ref q5) = some (.type "type"))
    (cn5 : PySem.W.subIn K (.type "NoneType") (.ref q5) = some false)
    (cg5 : PySem.W.findIn K (.ref q5) "__getattribute__" = some (some (.builtin "BaseException.__getattribute__")))
    (cG5 : PySem.W.findIn K (.ref q5) "__getattr__" = some none)
    (cc5 : PySem.W.findIn K (.ref q5) "__class__" = some (some (.builtin "object.__class__")))
    (cm5 : PySem.W.mroIn K q5 (.type "object") = some true)
    (cv5 : PySem.W.findIn K (.ref q5) "value" = some none)
    (cl5 : K.lookup q5 = some qo5)
    (co5 : OexO q5 qo5)
    (cs5 : PySem.W.findIn K (.ref q5) "__setattr__" = some (some (.builtin "object.__setattr__")))
    (ck5 : PySem.W.keepIn K (.ref q5) = true)
    (cE5 : PySem.W.subIn K (.ref q5) (.type "ValueError") = some true)
    (cS5 : PySem.W.subIn K (.ref q5) (.ref q5) = some true)
    (ii5 : PySem.W.findIn K (.ref q5) "__init__" = some (some (.ref qi5)))
    (iy5 : PySem.W.typeIn K (.ref qi5) = some (.type "function"))
    (il5 : K.lookup qi5 = some ⟨qc5, qd5, .func (PySem.W.fnOf "__init__" "InvalidStep.__init__" (defArgs s_init_InvalidStep) (defBody s_init_InvalidStep) (defScope s_init_InvalidStep) (.ref qT5) qk5 qb5 qp5 qn5 qv5 qw5), qs5⟩)
    (ic5 : PySem.W.codeIn K qv5 "InvalidStep.__init__" = true)
    (ik5 : PySem.W.keepIn K (.ref qi5) = true)
    (iT5 : K.lookup qT5 = some qt5)
    (iD5 : qt5.data = .seq #[Value.none] qm5)
    (ca6 : PySem.W.nsIn K mainGlobals "InvalidDeed" = some (some (.ref q6)))
    (ch6 : PySem.W.hasDictIn K q6 = true) (ce6 : PySem.W.subIn K (.ref q6) (.type "BaseException") = some true) (cy6 : PySem.W.typeIn K (.ref q6) = some (.type "type"))
    (cn6 : PySem.W.subIn K (.type "NoneType") (.ref q6) = some false)
    (cg6 : PySem.W.findIn K (.ref q6) "__getattribute__" = some (some (.builtin "BaseException.__getattribute__")))
    (cG6 : PySem.W.findIn K (.ref q6) "__getattr__" = some none)
    (cc6 : PySem.W.findIn K (.ref q6) "__class__" = some (some (.builtin "object.__class__")))
    (cm6 : PySem.W.mroIn K q6 (.type "object") = some true)
    (cv6 : PySem.W.findIn K (.ref q6) "value" = some none)
    (cl6 : K.lookup q6 = some qo6)
    (co6 : OexO q6 qo6)
    (cs6 : PySem.W.findIn K (.ref q6) "__setattr__" = some (some (.builtin "object.__setattr__")))
    (ck6 : PySem.W.keepIn K (.ref q6) = true)
    (cE6 : PySem.W.subIn K (.ref q6) (.type "ValueError") = some true)
    (cS6 : PySem.W.subIn K (.ref q6) (.ref q6) = some true)
    (ii6 : PySem.W.findIn K (.ref q6) "__init__" = some (some (.ref qi6)))
    (iy6 : PySem.W.typeIn K (.ref qi6) = some (.type "function"))
    (il6 : K.lookup qi6 = some ⟨qc6, qd6, .func (PySem.W.fnOf "__init__" "InvalidDeed.__init__" (defArgs s_init_InvalidDeed) (defBody s_init_InvalidDeed) (defScope s_init_InvalidDeed) (.ref qT6) qk6 qb6 qp6 qn6 qv6 qw6), qs6⟩)
    (ic6 : PySem.W.codeIn K qv6 "InvalidDeed.__init__" = true)
    (ik6 : PySem.W.keepIn K (.ref qi6) = true)
    (iT6 : K.lookup qT6 = some qt6)
    (iD6 : qt6.data = .seq #[Value.none] qm6)
    (ca7 : PySem.W.nsIn K mainGlobals "InvalidPlace" = some (some (.ref q7)))
    (ch7 : PySem.W.hasDictIn K q7 = true) (ce7 : PySem.W.subIn K (.ref q7) (.type "BaseException") = some true) (cy7 : PySem.W.typeIn K (.ref q7) = some (.type "type"))
    (cn7 : PySem.W.subIn K (.type "NoneType") (.ref q7) = some false)
    (cg7 : PySem.W.findIn K (.ref q7) "__getattribute__" = some (some (.builtin "BaseException.__getattribute__")))
    (cG7 : PySem.W.findIn K (.ref q7) "__getattr__" = some none)
    (cc7 : PySem.W.findIn K (.ref q7) "__class__" = some (some (.builtin "object.__class__")))
    (cm7 : PySem.W.mroIn K q7 (.type "object") = some true)
    (cv7 : PySem.W.findIn K (.ref q7) "value" = some none)
    (cl7 : K.lookup q7 = some qo7)
    (co7 : OexO q7 qo7)
    (cs7 : PySem.W.findIn K (.ref q7) "__setattr__" = some (some (.builtin "object.__setattr__")))
    (ck7 : PySem.W.keepIn K (.ref q7) = true)
    (cE7 : PySem.W.subIn K (.ref q7) (.type "ValueError") = some true)
    (cS7 : PySem.W.subIn K (.ref q7) (.ref q7) = some true)
    (ii7 : PySem.W.findIn K (.ref q7) "__init__" = some (some (.ref qi7)))
    (iy7 : PySem.W.typeIn K (.ref qi7) = some (.type "function"))
    (il7 : K.lookup qi7 = some ⟨qc7, qd7, .func (PySem.W.fnOf "__init__" "InvalidPlace.__init__" (defArgs s_init_InvalidPlace) (defBody s_init_InvalidPlace) (defScope s_init_InvalidPlace) (.ref qT7) qk7 qb7 qp7 qn7 qv7 qw7), qs7⟩)
    (ic7 : PySem.W.codeIn K qv7 "InvalidPlace.__init__" = true)
    (ik7 : PySem.W.keepIn K (.ref qi7) = true)
    (iT7 : K.lookup qT7 = some qt7)
    (iD7 : qt7.data = .seq #[Value.none] qm7)
    (ca8 : PySem.W.nsIn K mainGlobals "InvalidBound" = some (some (.ref q8)))
    (ch8 : PySem.W.hasDictIn K q8 = true) (ce8 : PySem.W.subIn K (.ref q8) (.type "BaseException") = some true) (cy8 : PySem.W.typeIn K (.ref q8) = some (.type "type"))
    (cn8 : PySem.W.subIn K (.type "NoneType") (.ref q8) = some false)
    (cg8 : PySem.W.findIn K (.ref q8) "__getattribute__" = some (some (.builtin "BaseException.__getattribute__")))
    (cG8 : PySem.W.findIn K (.ref q8) "__getattr__" = some none)
    (cc8 : PySem.W.findIn K (.ref q8) "__class__" = some (some (.builtin "object.__class__")))
    (cm8 : PySem.W.mroIn K q8 (.type "object") = some true)
    (cv8 : PySem.W.findIn K (.ref q8) "value" = some none)
    (cl8 : K.lookup q8 = some qo8)
    (co8 : OexO q8 qo8)
    (cs8 : PySem.W.findIn K (.ref q8) "__setattr__" = some (some (.builtin "object.__setattr__")))
    (ck8 : PySem.W.keepIn K (.ref q8) = true)
    (cE8 : PySem.W.subIn K (.ref q8) (.type "ValueError") = some true)
    (cS8 : PySem.W.subIn K (.ref q8) (.ref q8) = some true)
    (ii8 : PySem.W.findIn K (.ref q8) "__init__" = some (some (.ref qi8)))
    (iy8 : PySem.W.typeIn K (.ref qi8) = some (.type "function"))
    (il8 : K.lookup qi8 = some ⟨qc8, qd8, .func (PySem.W.fnOf "__init__" "InvalidBound.__init__" (defArgs s_init_InvalidBound) (defBody s_init_InvalidBound) (defScope s_init_InvalidBound) (.ref qT8) qk8 qb8 qp8 qn8 qv8 qw8), qs8⟩)
    (ic8 : PySem.W.codeIn K qv8 "InvalidBound.__init__" = true)
    (ik8 : PySem.W.keepIn K (.ref qi8) = true)
    (iT8 : K.lookup qT8 = some qt8)
    (iD8 : qt8.data = .seq #[Value.none] qm8)
    (ca9 : PySem.W.nsIn K mainGlobals "InvalidState" = some (some (.ref q9)))
    (ch9 : PySem.W.hasDictIn K q9 = true) (ce9 : PySem.W.subIn K (.ref q9) (.type "BaseException") = some true) (cy9 : PySem.W.typeIn K (.ref q9) = some (.type "type"))
    (cn9 : PySem.W.subIn K (.type "NoneType") (.ref q9) = some false)
    (cg9 : PySem.W.findIn K (.ref q9) "__getattribute__" = some (some (.builtin "BaseException.__getattribute__")))
    (cG9 : PySem.W.findIn K (.ref q9) "__getattr__" = some none)
    (cc9 : PySem.W.findIn K (.ref q9) "__class__" = some (some (.builtin "object.__class__")))
    (cm9 : PySem.W.mroIn K q9 (.type "object") = some true)
    (cv9 : PySem.W.findIn K (.ref q9) "value" = some none)
    (cl9 : K.lookup q9 = some qo9)
    (co9 : OexO q9 qo9)
    (cs9 : PySem.W.findIn K (.ref q9) "__setattr__" = some (some (.builtin "object.__setattr__")))
    (ck9 : PySem.W.keepIn K (.ref q9) = true)
    (cE9 : PySem.W.subIn K (.ref q9) (.type "ValueError") = some true)
    (cS9 : PySem.W.subIn K (.ref q9) (.ref q9) = some true)
    (ii9 : PySem.W.findIn K (.ref q9) "__init__" = some (some (.ref qi9)))
    (iy9 : PySem.W.typeIn K (.ref qi9) = some (.type "function"))
    (il9 : K.lookup qi9 = some ⟨qc9, qd9, .func (PySem.W.fnOf "__init__" "InvalidState.__init__" (defArgs s_init_InvalidState) (defBody s_init_InvalidState) (defScope s_init_InvalidState) (.ref qT9) qk9 qb9 qp9 qn9 qv9 qw9), qs9⟩)
    (ic9 : PySem.W.codeIn K qv9 "InvalidState.__init__" = true)
    (ik9 : PySem.W.keepIn K (.ref qi9) = true)
    (iT9 : K.lookup qT9 = some qt9)
    (iD9 : qt9.data = .seq #[Value.none] qm9)
    (ca10 : PySem.W.nsIn K mainGlobals "InvalidRun" = some (some (.ref q10)))
    (ch10 : PySem.W.hasDictIn K q10 = true) (ce10 : PySem.W.subIn K (.ref q10) (.type "BaseException") = some true) (cy10 : PySem.W.typeIn K (.ref q10) = some (.type "type"))
    (cn10 : PySem.W.subIn K (.type "NoneType") (.ref q10) = some false)
    (cg10 : PySem.W.findIn K (.ref q10) "__getattribute__" = some (some (.builtin "BaseException.__getattribute__")))
    (cG10 : PySem.W.findIn K (.ref q10) "__getattr__" = some none)
    (cc10 : PySem.W.findIn K (.ref q10) "__class__" = some (some (.builtin "object.__class__")))
    (cm10 : PySem.W.mroIn K q10 (.type "object") = some true)
    (cv10 : PySem.W.findIn K (.ref q10) "value" = some none)
    (cl10 : K.lookup q10 = some qo10)
    (co10 : OexO q10 qo10)
    (cs10 : PySem.W.findIn K (.ref q10) "__setattr__" = some (some (.builtin "object.__setattr__")))
    (ck10 : PySem.W.keepIn K (.ref q10) = true)
    (cE10 : PySem.W.subIn K (.ref q10) (.type "ValueError") = some true)
    (cS10 : PySem.W.subIn K (.ref q10) (.ref q10) = some true)
    (ii10 : PySem.W.findIn K (.ref q10) "__init__" = some (some (.ref qi10)))
    (iy10 : PySem.W.typeIn K (.ref qi10) = some (.type "function"))
    (il10 : K.lookup qi10 = some ⟨qc10, qd10, .func (PySem.W.fnOf "__init__" "InvalidRun.__init__" (defArgs s_init_InvalidRun) (defBody s_init_InvalidRun) (defScope s_init_InvalidRun) (.ref qT10) qk10 qb10 qp10 qn10 qv10 qw10), qs10⟩)
    (ic10 : PySem.W.codeIn K qv10 "InvalidRun.__init__" = true)
    (ik10 : PySem.W.keepIn K (.ref qi10) = true)
    (iT10 : K.lookup qT10 = some qt10)
    (iD10 : qt10.data = .seq #[Value.none] qm10)
    (ca11 : PySem.W.nsIn K mainGlobals "InvalidRow" = some (some (.ref q11)))
    (ch11 : PySem.W.hasDictIn K q11 = true) (ce11 : PySem.W.subIn K (.ref q11) (.type "BaseException") = some true) (cy11 : PySem.W.typeIn K (.ref q11) = some (.type "type"))
    (cn11 : PySem.W.subIn K (.type "NoneType") (.ref q11) = some false)
    (cg11 : PySem.W.findIn K (.ref q11) "__getattribute__" = some (some (.builtin "BaseException.__getattribute__")))
    (cG11 : PySem.W.findIn K (.ref q11) "__getattr__" = some none)
    (cc11 : PySem.W.findIn K (.ref q11) "__class__" = some (some (.builtin "object.__class__")))
    (cm11 : PySem.W.mroIn K q11 (.type "object") = some true)
    (cv11 : PySem.W.findIn K (.ref q11) "value" = some none)
    (cl11 : K.lookup q11 = some qo11)
    (co11 : OexO q11 qo11)
    (cs11 : PySem.W.findIn K (.ref q11) "__setattr__" = some (some (.builtin "object.__setattr__")))
    (ck11 : PySem.W.keepIn K (.ref q11) = true)
    (cE11 : PySem.W.subIn K (.ref q11) (.type "ValueError") = some true)
    (cS11 : PySem.W.subIn K (.ref q11) (.ref q11) = some true)
    (ii11 : PySem.W.findIn K (.ref q11) "__init__" = some (some (.ref qi11)))
    (iy11 : PySem.W.typeIn K (.ref qi11) = some (.type "function"))
    (il11 : K.lookup qi11 = some ⟨qc11, qd11, .func (PySem.W.fnOf "__init__" "InvalidRow.__init__" (defArgs s_init_InvalidRow) (defBody s_init_InvalidRow) (defScope s_init_InvalidRow) (.ref qT11) qk11 qb11 qp11 qn11 qv11 qw11), qs11⟩)
    (ic11 : PySem.W.codeIn K qv11 "InvalidRow.__init__" = true)
    (ik11 : PySem.W.keepIn K (.ref qi11) = true)
    (iT11 : K.lookup qT11 = some qt11)
    (iD11 : qt11.data = .seq #[Value.none] qm11)
    (ca12 : PySem.W.nsIn K mainGlobals "InvalidTable" = some (some (.ref q12)))
    (ch12 : PySem.W.hasDictIn K q12 = true) (ce12 : PySem.W.subIn K (.ref q12) (.type "BaseException") = some true) (cy12 : PySem.W.typeIn K (.ref q12) = some (.type "type"))
    (cn12 : PySem.W.subIn K (.type "NoneType") (.ref q12) = some false)
    (cg12 : PySem.W.findIn K (.ref q12) "__getattribute__" = some (some (.builtin "BaseException.__getattribute__")))
    (cG12 : PySem.W.findIn K (.ref q12) "__getattr__" = some none)
    (cc12 : PySem.W.findIn K (.ref q12) "__class__" = some (some (.builtin "object.__class__")))
    (cm12 : PySem.W.mroIn K q12 (.type "object") = some true)
    (cv12 : PySem.W.findIn K (.ref q12) "value" = some none)
    (cl12 : K.lookup q12 = some qo12)
    (co12 : OexO q12 qo12)
    (cs12 : PySem.W.findIn K (.ref q12) "__setattr__" = some (some (.builtin "object.__setattr__")))
    (ck12 : PySem.W.keepIn K (.ref q12) = true)
    (cE12 : PySem.W.subIn K (.ref q12) (.type "ValueError") = some true)
    (cS12 : PySem.W.subIn K (.ref q12) (.ref q12) = some true)
    (ii12 : PySem.W.findIn K (.ref q12) "__init__" = some (some (.ref qi12)))
    (iy12 : PySem.W.typeIn K (.ref qi12) = some (.type "function"))
    (il12 : K.lookup qi12 = some ⟨qc12, qd12, .func (PySem.W.fnOf "__init__" "InvalidTable.__init__" (defArgs s_init_InvalidTable) (defBody s_init_InvalidTable) (defScope s_init_InvalidTable) (.ref qT12) qk12 qb12 qp12 qn12 qv12 qw12), qs12⟩)
    (ic12 : PySem.W.codeIn K qv12 "InvalidTable.__init__" = true)
    (ik12 : PySem.W.keepIn K (.ref qi12) = true)
    (iT12 : K.lookup qT12 = some qt12)
    (iD12 : qt12.data = .seq #[Value.none] qm12)
    (ca13 : PySem.W.nsIn K mainGlobals "InvalidOpen" = some (some (.ref q13)))
    (ch13 : PySem.W.hasDictIn K q13 = true) (ce13 : PySem.W.subIn K (.ref q13) (.type "BaseException") = some true) (cy13 : PySem.W.typeIn K (.ref q13) = some (.type "type"))
    (cn13 : PySem.W.subIn K (.type "NoneType") (.ref q13) = some false)
    (cg13 : PySem.W.findIn K (.ref q13) "__getattribute__" = some (some (.builtin "BaseException.__getattribute__")))
    (cG13 : PySem.W.findIn K (.ref q13) "__getattr__" = some none)
    (cc13 : PySem.W.findIn K (.ref q13) "__class__" = some (some (.builtin "object.__class__")))
    (cm13 : PySem.W.mroIn K q13 (.type "object") = some true)
    (cv13 : PySem.W.findIn K (.ref q13) "value" = some none)
    (cl13 : K.lookup q13 = some qo13)
    (co13 : OexO q13 qo13)
    (cs13 : PySem.W.findIn K (.ref q13) "__setattr__" = some (some (.builtin "object.__setattr__")))
    (ck13 : PySem.W.keepIn K (.ref q13) = true)
    (cE13 : PySem.W.subIn K (.ref q13) (.type "ValueError") = some true)
    (cS13 : PySem.W.subIn K (.ref q13) (.ref q13) = some true)
    (ii13 : PySem.W.findIn K (.ref q13) "__init__" = some (some (.ref qi13)))
    (iy13 : PySem.W.typeIn K (.ref qi13) = some (.type "function"))
    (il13 : K.lookup qi13 = some ⟨qc13, qd13, .func (PySem.W.fnOf "__init__" "InvalidOpen.__init__" (defArgs s_init_InvalidOpen) (defBody s_init_InvalidOpen) (defScope s_init_InvalidOpen) (.ref qT13) qk13 qb13 qp13 qn13 qv13 qw13), qs13⟩)
    (ic13 : PySem.W.codeIn K qv13 "InvalidOpen.__init__" = true)
    (ik13 : PySem.W.keepIn K (.ref qi13) = true)
    (iT13 : K.lookup qT13 = some qt13)
    (iD13 : qt13.data = .seq #[Value.none] qm13)
    (ca14 : PySem.W.nsIn K mainGlobals "InvalidPlan" = some (some (.ref q14)))
    (ch14 : PySem.W.hasDictIn K q14 = true) (ce14 : PySem.W.subIn K (.ref q14) (.type "BaseException") = some true) (cy14 : PySem.W.typeIn K (.ref q14) = some (.type "type"))
    (cn14 : PySem.W.subIn K (.type "NoneType") (.ref q14) = some false)
    (cg14 : PySem.W.findIn K (.ref q14) "__getattribute__" = some (some (.builtin "BaseException.__getattribute__")))
    (cG14 : PySem.W.findIn K (.ref q14) "__getattr__" = some none)
    (cc14 : PySem.W.findIn K (.ref q14) "__class__" = some (some (.builtin "object.__class__")))
    (cm14 : PySem.W.mroIn K q14 (.type "object") = some true)
    (cv14 : PySem.W.findIn K (.ref q14) "value" = some none)
    (cl14 : K.lookup q14 = some qo14)
    (co14 : OexO q14 qo14)
    (cs14 : PySem.W.findIn K (.ref q14) "__setattr__" = some (some (.builtin "object.__setattr__")))
    (ck14 : PySem.W.keepIn K (.ref q14) = true)
    (cE14 : PySem.W.subIn K (.ref q14) (.type "ValueError") = some true)
    (cS14 : PySem.W.subIn K (.ref q14) (.ref q14) = some true)
    (ii14 : PySem.W.findIn K (.ref q14) "__init__" = some (some (.ref qi14)))
    (iy14 : PySem.W.typeIn K (.ref qi14) = some (.type "function"))
    (il14 : K.lookup qi14 = some ⟨qc14, qd14, .func (PySem.W.fnOf "__init__" "InvalidPlan.__init__" (defArgs s_init_InvalidPlan) (defBody s_init_InvalidPlan) (defScope s_init_InvalidPlan) (.ref qT14) qk14 qb14 qp14 qn14 qv14 qw14), qs14⟩)
    (ic14 : PySem.W.codeIn K qv14 "InvalidPlan.__init__" = true)
    (ik14 : PySem.W.keepIn K (.ref qi14) = true)
    (iT14 : K.lookup qT14 = some qt14)
    (iD14 : qt14.data = .seq #[Value.none] qm14)
    (ca15 : PySem.W.nsIn K mainGlobals "InvalidPaper" = some (some (.ref q15)))
    (ch15 : PySem.W.hasDictIn K q15 = true) (ce15 : PySem.W.subIn K (.ref q15) (.type "BaseException") = some true) (cy15 : PySem.W.typeIn K (.ref q15) = some (.type "type"))
    (cn15 : PySem.W.subIn K (.type "NoneType") (.ref q15) = some false)
    (cg15 : PySem.W.findIn K (.ref q15) "__getattribute__" = some (some (.builtin "BaseException.__getattribute__")))
    (cG15 : PySem.W.findIn K (.ref q15) "__getattr__" = some none)
    (cc15 : PySem.W.findIn K (.ref q15) "__class__" = some (some (.builtin "object.__class__")))
    (cm15 : PySem.W.mroIn K q15 (.type "object") = some true)
    (cv15 : PySem.W.findIn K (.ref q15) "value" = some none)
    (cl15 : K.lookup q15 = some qo15)
    (co15 : OexO q15 qo15)
    (cs15 : PySem.W.findIn K (.ref q15) "__setattr__" = some (some (.builtin "object.__setattr__")))
    (ck15 : PySem.W.keepIn K (.ref q15) = true)
    (cE15 : PySem.W.subIn K (.ref q15) (.type "ValueError") = some true)
    (cS15 : PySem.W.subIn K (.ref q15) (.ref q15) = some true)
    (ii15 : PySem.W.findIn K (.ref q15) "__init__" = some (some (.ref qi15)))
    (iy15 : PySem.W.typeIn K (.ref qi15) = some (.type "function"))
    (il15 : K.lookup qi15 = some ⟨qc15, qd15, .func (PySem.W.fnOf "__init__" "InvalidPaper.__init__" (defArgs s_init_InvalidPaper) (defBody s_init_InvalidPaper) (defScope s_init_InvalidPaper) (.ref qT15) qk15 qb15 qp15 qn15 qv15 qw15), qs15⟩)
    (ic15 : PySem.W.codeIn K qv15 "InvalidPaper.__init__" = true)
    (ik15 : PySem.W.keepIn K (.ref qi15) = true)
    (iT15 : K.lookup qT15 = some qt15)
    (iD15 : qt15.data = .seq #[Value.none] qm15)
    (ca16 : PySem.W.nsIn K mainGlobals "InvalidWidth" = some (some (.ref q16)))
    (ch16 : PySem.W.hasDictIn K q16 = true) (ce16 : PySem.W.subIn K (.ref q16) (.type "BaseException") = some true) (cy16 : PySem.W.typeIn K (.ref q16) = some (.type "type"))
    (cn16 : PySem.W.subIn K (.type "NoneType") (.ref q16) = some false)
    (cg16 : PySem.W.findIn K (.ref q16) "__getattribute__" = some (some (.builtin "BaseException.__getattribute__")))
    (cG16 : PySem.W.findIn K (.ref q16) "__getattr__" = some none)
    (cc16 : PySem.W.findIn K (.ref q16) "__class__" = some (some (.builtin "object.__class__")))
    (cm16 : PySem.W.mroIn K q16 (.type "object") = some true)
    (cv16 : PySem.W.findIn K (.ref q16) "value" = some none)
    (cl16 : K.lookup q16 = some qo16)
    (co16 : OexO q16 qo16)
    (cs16 : PySem.W.findIn K (.ref q16) "__setattr__" = some (some (.builtin "object.__setattr__")))
    (ck16 : PySem.W.keepIn K (.ref q16) = true)
    (cE16 : PySem.W.subIn K (.ref q16) (.type "ValueError") = some true)
    (cS16 : PySem.W.subIn K (.ref q16) (.ref q16) = some true)
    (ii16 : PySem.W.findIn K (.ref q16) "__init__" = some (some (.ref qi16)))
    (iy16 : PySem.W.typeIn K (.ref qi16) = some (.type "function"))
    (il16 : K.lookup qi16 = some ⟨qc16, qd16, .func (PySem.W.fnOf "__init__" "InvalidWidth.__init__" (defArgs s_init_InvalidWidth) (defBody s_init_InvalidWidth) (defScope s_init_InvalidWidth) (.ref qT16) qk16 qb16 qp16 qn16 qv16 qw16), qs16⟩)
    (ic16 : PySem.W.codeIn K qv16 "InvalidWidth.__init__" = true)
    (ik16 : PySem.W.keepIn K (.ref qi16) = true)
    (iT16 : K.lookup qT16 = some qt16)
    (iD16 : qt16.data = .seq #[Value.none] qm16)
    (ca17 : PySem.W.nsIn K mainGlobals "InvalidWish" = some (some (.ref q17)))
    (ch17 : PySem.W.hasDictIn K q17 = true) (ce17 : PySem.W.subIn K (.ref q17) (.type "BaseException") = some true) (cy17 : PySem.W.typeIn K (.ref q17) = some (.type "type"))
    (cn17 : PySem.W.subIn K (.type "NoneType") (.ref q17) = some false)
    (cg17 : PySem.W.findIn K (.ref q17) "__getattribute__" = some (some (.builtin "BaseException.__getattribute__")))
    (cG17 : PySem.W.findIn K (.ref q17) "__getattr__" = some none)
    (cc17 : PySem.W.findIn K (.ref q17) "__class__" = some (some (.builtin "object.__class__")))
    (cm17 : PySem.W.mroIn K q17 (.type "object") = some true)
    (cv17 : PySem.W.findIn K (.ref q17) "value" = some none)
    (cl17 : K.lookup q17 = some qo17)
    (co17 : OexO q17 qo17)
    (cs17 : PySem.W.findIn K (.ref q17) "__setattr__" = some (some (.builtin "object.__setattr__")))
    (ck17 : PySem.W.keepIn K (.ref q17) = true)
    (cE17 : PySem.W.subIn K (.ref q17) (.type "ValueError") = some true)
    (cS17 : PySem.W.subIn K (.ref q17) (.ref q17) = some true)
    (ii17 : PySem.W.findIn K (.ref q17) "__init__" = some (some (.ref qi17)))
    (iy17 : PySem.W.typeIn K (.ref qi17) = some (.type "function"))
    (il17 : K.lookup qi17 = some ⟨qc17, qd17, .func (PySem.W.fnOf "__init__" "InvalidWish.__init__" (defArgs s_init_InvalidWish) (defBody s_init_InvalidWish) (defScope s_init_InvalidWish) (.ref qT17) qk17 qb17 qp17 qn17 qv17 qw17), qs17⟩)
    (ic17 : PySem.W.codeIn K qv17 "InvalidWish.__init__" = true)
    (ik17 : PySem.W.keepIn K (.ref qi17) = true)
    (iT17 : K.lookup qT17 = some qt17)
    (iD17 : qt17.data = .seq #[Value.none] qm17)
    (ca18 : PySem.W.nsIn K mainGlobals "InvalidText" = some (some (.ref q18)))
    (ch18 : PySem.W.hasDictIn K q18 = true) (ce18 : PySem.W.subIn K (.ref q18) (.type "BaseException") = some true) (cy18 : PySem.W.typeIn K (.ref q18) = some (.type "type"))
    (cn18 : PySem.W.subIn K (.type "NoneType") (.ref q18) = some false)
    (cg18 : PySem.W.findIn K (.ref q18) "__getattribute__" = some (some (.builtin "BaseException.__getattribute__")))
    (cG18 : PySem.W.findIn K (.ref q18) "__getattr__" = some none)
    (cc18 : PySem.W.findIn K (.ref q18) "__class__" = some (some (.builtin "object.__class__")))
    (cm18 : PySem.W.mroIn K q18 (.type "object") = some true)
    (cv18 : PySem.W.findIn K (.ref q18) "value" = some none)
    (cl18 : K.lookup q18 = some qo18)
    (co18 : OexO q18 qo18)
    (cs18 : PySem.W.findIn K (.ref q18) "__setattr__" = some (some (.builtin "object.__setattr__")))
    (ck18 : PySem.W.keepIn K (.ref q18) = true)
    (cE18 : PySem.W.subIn K (.ref q18) (.type "ValueError") = some true)
    (cS18 : PySem.W.subIn K (.ref q18) (.ref q18) = some true)
    (ii18 : PySem.W.findIn K (.ref q18) "__init__" = some (some (.ref qi18)))
    (iy18 : PySem.W.typeIn K (.ref qi18) = some (.type "function"))
    (il18 : K.lookup qi18 = some ⟨qc18, qd18, .func (PySem.W.fnOf "__init__" "InvalidText.__init__" (defArgs s_init_InvalidText) (defBody s_init_InvalidText) (defScope s_init_InvalidText) (.ref qT18) qk18 qb18 qp18 qn18 qv18 qw18), qs18⟩)
    (ic18 : PySem.W.codeIn K qv18 "InvalidText.__init__" = true)
    (ik18 : PySem.W.keepIn K (.ref qi18) = true)
    (iT18 : K.lookup qT18 = some qt18)
    (iD18 : qt18.data = .seq #[Value.none] qm18)
    (ca19 : PySem.W.nsIn K mainGlobals "InvalidEdit" = some (some (.ref q19)))
    (ch19 : PySem.W.hasDictIn K q19 = true) (ce19 : PySem.W.subIn K (.ref q19) (.type "BaseException") = some true) (cy19 : PySem.W.typeIn K (.ref q19) = some (.type "type"))
    (cn19 : PySem.W.subIn K (.type "NoneType") (.ref q19) = some false)
    (cg19 : PySem.W.findIn K (.ref q19) "__getattribute__" = some (some (.builtin "BaseException.__getattribute__")))
    (cG19 : PySem.W.findIn K (.ref q19) "__getattr__" = some none)
    (cc19 : PySem.W.findIn K (.ref q19) "__class__" = some (some (.builtin "object.__class__")))
    (cm19 : PySem.W.mroIn K q19 (.type "object") = some true)
    (cv19 : PySem.W.findIn K (.ref q19) "value" = some none)
    (cl19 : K.lookup q19 = some qo19)
    (co19 : OexO q19 qo19)
    (cs19 : PySem.W.findIn K (.ref q19) "__setattr__" = some (some (.builtin "object.__setattr__")))
    (ck19 : PySem.W.keepIn K (.ref q19) = true)
    (cE19 : PySem.W.subIn K (.ref q19) (.type "ValueError") = some true)
    (cS19 : PySem.W.subIn K (.ref q19) (.ref q19) = some true)
    (ii19 : PySem.W.findIn K (.ref q19) "__init__" = some (some (.ref qi19)))
    (iy19 : PySem.W.typeIn K (.ref qi19) = some (.type "function"))
    (il19 : K.lookup qi19 = some ⟨qc19, qd19, .func (PySem.W.fnOf "__init__" "InvalidEdit.__init__" (defArgs s_init_InvalidEdit) (defBody s_init_InvalidEdit) (defScope s_init_InvalidEdit) (.ref qT19) qk19 qb19 qp19 qn19 qv19 qw19), qs19⟩)
    (ic19 : PySem.W.codeIn K qv19 "InvalidEdit.__init__" = true)
    (ik19 : PySem.W.keepIn K (.ref qi19) = true)
    (iT19 : K.lookup qT19 = some qt19)
    (iD19 : qt19.data = .seq #[Value.none] qm19)
    (ca20 : PySem.W.nsIn K mainGlobals "Unlike" = some (some (.ref q20)))
    (ch20 : PySem.W.hasDictIn K q20 = true) (ce20 : PySem.W.subIn K (.ref q20) (.type "BaseException") = some true) (cy20 : PySem.W.typeIn K (.ref q20) = some (.type "type"))
    (cn20 : PySem.W.subIn K (.type "NoneType") (.ref q20) = some false)
    (cg20 : PySem.W.findIn K (.ref q20) "__getattribute__" = some (some (.builtin "BaseException.__getattribute__")))
    (cG20 : PySem.W.findIn K (.ref q20) "__getattr__" = some none)
    (cc20 : PySem.W.findIn K (.ref q20) "__class__" = some (some (.builtin "object.__class__")))
    (cm20 : PySem.W.mroIn K q20 (.type "object") = some true)
    (cv20 : PySem.W.findIn K (.ref q20) "value" = some none)
    (cl20 : K.lookup q20 = some qo20)
    (co20 : OexO q20 qo20)
    (cs20 : PySem.W.findIn K (.ref q20) "__setattr__" = some (some (.builtin "object.__setattr__")))
    (ck20 : PySem.W.keepIn K (.ref q20) = true)
    (cE20 : PySem.W.subIn K (.ref q20) (.type "ValueError") = some true)
    (cS20 : PySem.W.subIn K (.ref q20) (.ref q20) = some true)
    (ii20 : PySem.W.findIn K (.ref q20) "__init__" = some (some (.ref qi20)))
    (iy20 : PySem.W.typeIn K (.ref qi20) = some (.type "function"))
    (il20 : K.lookup qi20 = some ⟨qc20, qd20, .func (PySem.W.fnOf "__init__" "Unlike.__init__" (defArgs s_init_Unlike) (defBody s_init_Unlike) (defScope s_init_Unlike) (.ref qT20) qk20 qb20 qp20 qn20 qv20 qw20), qs20⟩)
    (ic20 : PySem.W.codeIn K qv20 "Unlike.__init__" = true)
    (ik20 : PySem.W.keepIn K (.ref qi20) = true)
    (iT20 : K.lookup qT20 = some qt20)
    (iD20 : qt20.data = .seq #[Value.none] qm20)
    (ca21 : PySem.W.nsIn K mainGlobals "TooMany" = some (some (.ref q21)))
    (ch21 : PySem.W.hasDictIn K q21 = true) (ce21 : PySem.W.subIn K (.ref q21) (.type "BaseException") = some true) (cy21 : PySem.W.typeIn K (.ref q21) = some (.type "type"))
    (cn21 : PySem.W.subIn K (.type "NoneType") (.ref q21) = some false)
    (cg21 : PySem.W.findIn K (.ref q21) "__getattribute__" = some (some (.builtin "BaseException.__getattribute__")))
    (cG21 : PySem.W.findIn K (.ref q21) "__getattr__" = some none)
    (cc21 : PySem.W.findIn K (.ref q21) "__class__" = some (some (.builtin "object.__class__")))
    (cm21 : PySem.W.mroIn K q21 (.type "object") = some true)
    (cv21 : PySem.W.findIn K (.ref q21) "value" = some none)
    (cl21 : K.lookup q21 = some qo21)
    (co21 : OexO q21 qo21)
    (cs21 : PySem.W.findIn K (.ref q21) "__setattr__" = some (some (.builtin "object.__setattr__")))
    (ck21 : PySem.W.keepIn K (.ref q21) = true)
    (cE21 : PySem.W.subIn K (.ref q21) (.type "ValueError") = some true)
    (cS21 : PySem.W.subIn K (.ref q21) (.ref q21) = some true)
    (ii21 : PySem.W.findIn K (.ref q21) "__init__" = some (some (.ref qi21)))
    (iy21 : PySem.W.typeIn K (.ref qi21) = some (.type "function"))
    (il21 : K.lookup qi21 = some ⟨qc21, qd21, .func (PySem.W.fnOf "__init__" "TooMany.__init__" (defArgs s_init_TooMany) (defBody s_init_TooMany) (defScope s_init_TooMany) (.ref qT21) qk21 qb21 qp21 qn21 qv21 qw21), qs21⟩)
    (ic21 : PySem.W.codeIn K qv21 "TooMany.__init__" = true)
    (ik21 : PySem.W.keepIn K (.ref qi21) = true)
    (iT21 : K.lookup qT21 = some qt21)
    (iD21 : qt21.data = .seq #[Value.none] qm21)
    (ca22 : PySem.W.nsIn K mainGlobals "Stuck" = some (some (.ref q22)))
    (ch22 : PySem.W.hasDictIn K q22 = true) (ce22 : PySem.W.subIn K (.ref q22) (.type "BaseException") = some true) (cy22 : PySem.W.typeIn K (.ref q22) = some (.type "type"))
    (cn22 : PySem.W.subIn K (.type "NoneType") (.ref q22) = some false)
    (cg22 : PySem.W.findIn K (.ref q22) "__getattribute__" = some (some (.builtin "BaseException.__getattribute__")))
    (cG22 : PySem.W.findIn K (.ref q22) "__getattr__" = some none)
    (cc22 : PySem.W.findIn K (.ref q22) "__class__" = some (some (.builtin "object.__class__")))
    (cm22 : PySem.W.mroIn K q22 (.type "object") = some true)
    (cv22 : PySem.W.findIn K (.ref q22) "value" = some none)
    (cl22 : K.lookup q22 = some qo22)
    (co22 : OexO q22 qo22)
    (cs22 : PySem.W.findIn K (.ref q22) "__setattr__" = some (some (.builtin "object.__setattr__")))
    (ck22 : PySem.W.keepIn K (.ref q22) = true)
    (cE22 : PySem.W.subIn K (.ref q22) (.type "ValueError") = some true)
    (cS22 : PySem.W.subIn K (.ref q22) (.ref q22) = some true)
    (ii22 : PySem.W.findIn K (.ref q22) "__init__" = some (some (.ref qi22)))
    (iy22 : PySem.W.typeIn K (.ref qi22) = some (.type "function"))
    (il22 : K.lookup qi22 = some ⟨qc22, qd22, .func (PySem.W.fnOf "__init__" "Stuck.__init__" (defArgs s_init_Stuck) (defBody s_init_Stuck) (defScope s_init_Stuck) (.ref qT22) qk22 qb22 qp22 qn22 qv22 qw22), qs22⟩)
    (ic22 : PySem.W.codeIn K qv22 "Stuck.__init__" = true)
    (ik22 : PySem.W.keepIn K (.ref qi22) = true)
    (iT22 : K.lookup qT22 = some qt22)
    (iD22 : qt22.data = .seq #[Value.none] qm22)
    (ca23 : PySem.W.nsIn K mainGlobals "NothingToUndo" = some (some (.ref q23)))
    (ch23 : PySem.W.hasDictIn K q23 = true) (ce23 : PySem.W.subIn K (.ref q23) (.type "BaseException") = some true) (cy23 : PySem.W.typeIn K (.ref q23) = some (.type "type"))
    (cn23 : PySem.W.subIn K (.type "NoneType") (.ref q23) = some false)
    (cg23 : PySem.W.findIn K (.ref q23) "__getattribute__" = some (some (.builtin "BaseException.__getattribute__")))
    (cG23 : PySem.W.findIn K (.ref q23) "__getattr__" = some none)
    (cc23 : PySem.W.findIn K (.ref q23) "__class__" = some (some (.builtin "object.__class__")))
    (cm23 : PySem.W.mroIn K q23 (.type "object") = some true)
    (cv23 : PySem.W.findIn K (.ref q23) "value" = some none)
    (ck23 : PySem.W.keepIn K (.ref q23) = true)
    (cE23 : PySem.W.subIn K (.ref q23) (.type "ValueError") = some true)
    (cq23 : PySem.W.excIn K q23 [.type "ValueError", .type "Exception", .type "BaseException", .type "object"] "ValueError.__new__" = true)
    (ca24 : PySem.W.nsIn K mainGlobals "NothingToRedo" = some (some (.ref q24)))
    (ch24 : PySem.W.hasDictIn K q24 = true) (ce24 : PySem.W.subIn K (.ref q24) (.type "BaseException") = some true) (cy24 : PySem.W.typeIn K (.ref q24) = some (.type "type"))
    (cn24 : PySem.W.subIn K (.type "NoneType") (.ref q24) = some false)
    (cg24 : PySem.W.findIn K (.ref q24) "__getattribute__" = some (some (.builtin "BaseException.__getattribute__")))
    (cG24 : PySem.W.findIn K (.ref q24) "__getattr__" = some none)
    (cc24 : PySem.W.findIn K (.ref q24) "__class__" = some (some (.builtin "object.__class__")))
    (cm24 : PySem.W.mroIn K q24 (.type "object") = some true)
    (cv24 : PySem.W.findIn K (.ref q24) "value" = some none)
    (ck24 : PySem.W.keepIn K (.ref q24) = true)
    (cE24 : PySem.W.subIn K (.ref q24) (.type "ValueError") = some true)
    (cq24 : PySem.W.excIn K q24 [.type "ValueError", .type "Exception", .type "BaseException", .type "object"] "ValueError.__new__" = true)
    (sS : subsB K kkSUP [("BoundError", q0), ("InvalidNumber", q1), ("InvalidName", q2), ("InvalidRange", q3), ("InvalidProgram", q4), ("InvalidStep", q5), ("InvalidDeed", q6), ("InvalidPlace", q7), ("InvalidBound", q8), ("InvalidState", q9), ("InvalidRun", q10), ("InvalidRow", q11), ("InvalidTable", q12), ("InvalidOpen", q13), ("InvalidPlan", q14), ("InvalidPaper", q15), ("InvalidWidth", q16), ("InvalidWish", q17), ("InvalidText", q18), ("InvalidEdit", q19), ("Unlike", q20), ("TooMany", q21), ("Stuck", q22), ("NothingToUndo", q23), ("NothingToRedo", q24)] = true)
    (sp : PySem.W.specialIn K (.builtin "object.__class__") "__get__" = some (some (.builtin "getset_descriptor.__get__"))) (tk : PySem.W.takesIn K (.builtin "object.__class__") = some true)
    
    : ∃ (fd : FuncData) (cs : List (Addr × Addr)), TabsF K kkTABS cs ∧ (∀ p ∈ cs, h.get? p.2 = some { cls := .none, data := .fields #[] }) ∧ (∀ p ∈ cs, K.lookup p.2 = none) ∧ (∀ p ∈ cs, PySem.W.CodeHd h p.1 p.2) ∧ (∀ (s : Shared) (v : Value), BindsTo s fd ⟨[v], []⟩ [("script", v)]) ∧ ∀ base : Heap, K.In base → base.Ns mainGlobals mg → (∀ p ∈ cs, LamX.TabB base mg p.1 p.2) → FnG P w K mg base 4 fa fd ["script"] (spOf K 1 (c_law fu)) := by
  have e := hfa.symm.trans (PySem.W.mg_of X G a9)
  cases e
  have TF : TabsF K kkTABS [] := TabsF.nil
  have xc0 : XcC K q0 := xcc_mk ch0 cg0 cG0 ce0 cc0 cm0 cv0
  have xc1 : XcC K q1 := xcc_mk ch1 cg1 cG1 ce1 cc1 cm1 cv1
  have FI1 : FunN K "__init__" "InvalidNumber.__init__" s_init_InvalidNumber qi1 _ := funN_mk il1 ic1 ik1 iT1 iD1
  have xc2 : XcC K q2 := xcc_mk ch2 cg2 cG2 ce2 cc2 cm2 cv2
  have FI2 : FunN K "__init__" "InvalidName.__init__" s_init_InvalidName qi2 _ := funN_mk il2 ic2 ik2 iT2 iD2
  have xc3 : XcC K q3 := xcc_mk ch3 cg3 cG3 ce3 cc3 cm3 cv3
  have FI3 : FunN K "__init__" "InvalidRange.__init__" s_init_InvalidRange qi3 _ := funN_mk il3 ic3 ik3 iT3 iD3
  have xc4 : XcC K q4 := xcc_mk ch4 cg4 cG4 ce4 cc4 cm4 cv4
  have FI4 : FunN K "__init__" "InvalidProgram.__init__" s_init_InvalidProgram qi4 _ := funN_mk il4 ic4 ik4 iT4 iD4
  have xc5 : XcC K q5 := xcc_mk ch5 cg5 cG5 ce5 cc5 cm5 cv5
  have FI5 : FunN K "__init__" "InvalidStep.__init__" s_init_InvalidStep qi5 _ := funN_mk il5 ic5 ik5 iT5 iD5
  have xc6 : XcC K q6 := xcc_mk ch6 cg6 cG6 ce6 cc6 cm6 cv6
  have FI6 : FunN K "__init__" "InvalidDeed.__init__" s_init_InvalidDeed qi6 _ := funN_mk il6 ic6 ik6 iT6 iD6
  have xc7 : XcC K q7 := xcc_mk ch7 cg7 cG7 ce7 cc7 cm7 cv7
  have FI7 : FunN K "__init__" "InvalidPlace.__init__" s_init_InvalidPlace qi7 _ := funN_mk il7 ic7 ik7 iT7 iD7
  have xc8 : XcC K q8 := xcc_mk ch8 cg8 cG8 ce8 cc8 cm8 cv8
  have FI8 : FunN K "__init__" "InvalidBound.__init__" s_init_InvalidBound qi8 _ := funN_mk il8 ic8 ik8 iT8 iD8
  have xc9 : XcC K q9 := xcc_mk ch9 cg9 cG9 ce9 cc9 cm9 cv9
  have FI9 : FunN K "__init__" "InvalidState.__init__" s_init_InvalidState qi9 _ := funN_mk il9 ic9 ik9 iT9 iD9
  have xc10 : XcC K q10 := xcc_mk ch10 cg10 cG10 ce10 cc10 cm10 cv10
  have FI10 : FunN K "__init__" "InvalidRun.__init__" s_init_InvalidRun qi10 _ := funN_mk il10 ic10 ik10 iT10 iD10
  have xc11 : XcC K q11 := xcc_mk ch11 cg11 cG11 ce11 cc11 cm11 cv11
  have FI11 : FunN K "__init__" "InvalidRow.__init__" s_init_InvalidRow qi11 _ := funN_mk il11 ic11 ik11 iT11 iD11
  have xc12 : XcC K q12 := xcc_mk ch12 cg12 cG12 ce12 cc12 cm12 cv12
  have FI12 : FunN K "__init__" "InvalidTable.__init__" s_init_InvalidTable qi12 _ := funN_mk il12 ic12 ik12 iT12 iD12
  have xc13 : XcC K q13 := xcc_mk ch13 cg13 cG13 ce13 cc13 cm13 cv13
  have FI13 : FunN K "__init__" "InvalidOpen.__init__" s_init_InvalidOpen qi13 _ := funN_mk il13 ic13 ik13 iT13 iD13
  have xc14 : XcC K q14 := xcc_mk ch14 cg14 cG14 ce14 cc14 cm14 cv14
  have FI14 : FunN K "__init__" "InvalidPlan.__init__" s_init_InvalidPlan qi14 _ := funN_mk il14 ic14 ik14 iT14 iD14
  have xc15 : XcC K q15 := xcc_mk ch15 cg15 cG15 ce15 cc15 cm15 cv15
  have FI15 : FunN K "__init__" "InvalidPaper.__init__" s_init_InvalidPaper qi15 _ := funN_mk il15 ic15 ik15 iT15 iD15
  have xc16 : XcC K q16 := xcc_mk ch16 cg16 cG16 ce16 cc16 cm16 cv16
  have FI16 : FunN K "__init__" "InvalidWidth.__init__" s_init_InvalidWidth qi16 _ := funN_mk il16 ic16 ik16 iT16 iD16
  have xc17 : XcC K q17 := xcc_mk ch17 cg17 cG17 ce17 cc17 cm17 cv17
  have FI17 : FunN K "__init__" "InvalidWish.__init__" s_init_InvalidWish qi17 _ := funN_mk il17 ic17 ik17 iT17 iD17
  have xc18 : XcC K q18 := xcc_mk ch18 cg18 cG18 ce18 cc18 cm18 cv18
  have FI18 : FunN K "__init__" "InvalidText.__init__" s_init_InvalidText qi18 _ := funN_mk il18 ic18 ik18 iT18 iD18
  have xc19 : XcC K q19 := xcc_mk ch19 cg19 cG19 ce19 cc19 cm19 cv19
  have FI19 : FunN K "__init__" "InvalidEdit.__init__" s_init_InvalidEdit qi19 _ := funN_mk il19 ic19 ik19 iT19 iD19
  have xc20 : XcC K q20 := xcc_mk ch20 cg20 cG20 ce20 cc20 cm20 cv20
  have FI20 : FunN K "__init__" "Unlike.__init__" s_init_Unlike qi20 _ := funN_mk il20 ic20 ik20 iT20 iD20
  have xc21 : XcC K q21 := xcc_mk ch21 cg21 cG21 ce21 cc21 cm21 cv21
  have FI21 : FunN K "__init__" "TooMany.__init__" s_init_TooMany qi21 _ := funN_mk il21 ic21 ik21 iT21 iD21
  have xc22 : XcC K q22 := xcc_mk ch22 cg22 cG22 ce22 cc22 cm22 cv22
  have FI22 : FunN K "__init__" "Stuck.__init__" s_init_Stuck qi22 _ := funN_mk il22 ic22 ik22 iT22 iD22
  have xc23 : XcC K q23 := xcc_mk ch23 cg23 cG23 ce23 cc23 cm23 cv23
  have xc24 : XcC K q24 := xcc_mk ch24 cg24 cG24 ce24 cc24 cm24 cv24
  let C : ∀ base : Heap, TabsB K mg base kkTABS → Facts w K mg base := fun base tb => { a__law_by_name := f0, fd__law_by_name := _, F__law_by_name := fun_mk (st := s__law_by_name) l0 c0 k0, m__law_by_name := PySem.W.mg_of X G a0, g__law_by_name := a0, a__law_empty := f1, fd__law_empty := _, F__law_empty := fun_mk (st := s__law_empty) l1 c1 k1, m__law_empty := PySem.W.mg_of X G a1, g__law_empty := a1, a__law_cell := f2, fd__law_cell := _, F__law_cell := fun_mk (st := s__law_cell) l2 c2 k2, m__law_cell := PySem.W.mg_of X G a2, g__law_cell := a2, a__law_generator := f3, fd__law_generator := _, F__law_generator := fun_mk (st := s__law_generator) l3 c3 k3, m__law_generator := PySem.W.mg_of X G a3, g__law_generator := a3, a__law_kinds := f4, fd__law_kinds := _, F__law_kinds := fun_mk (st := s__law_kinds) l4 c4 k4, m__law_kinds := PySem.W.mg_of X G a4, g__law_kinds := a4, a__law_made := f5, fd__law_made := _, F__law_made := fun_mk (st := s__law_made) l5 c5 k5, m__law_made := PySem.W.mg_of X G a5, g__law_made := a5, a__law_hash := f6, fd__law_hash := _, F__law_hash := fun_mk (st := s__law_hash) l6 c6 k6, m__law_hash := PySem.W.mg_of X G a6, g__law_hash := a6, a__law_random := f7, fd__law_random := _, F__law_random := fun_mk (st := s__law_random) l7 c7 k7, m__law_random := PySem.W.mg_of X G a7, g__law_random := a7, a__law_row_right := f8, fd__law_row_right := _, F__law_row_right := fun_mk (st := s__law_row_right) l8 c8 k8, m__law_row_right := PySem.W.mg_of X G a8, g__law_row_right := a8, a_law := fa, fd_law := _, F_law := fun_mk (st := s_law) l9 c9 k9, m_law := PySem.W.mg_of X G a9, g_law := a9, z_ValueError := PySem.W.mg_none_of X G z_ValueError, z_enumerate := PySem.W.mg_none_of X G z_enumerate, z_int := PySem.W.mg_none_of X G z_int, z_isinstance := PySem.W.mg_none_of X G z_isinstance, z_len := PySem.W.mg_none_of X G z_len, z_max := PySem.W.mg_none_of X G z_max, z_range := PySem.W.mg_none_of X G z_range, z_repr := PySem.W.mg_none_of X G z_repr, z_sum := PySem.W.mg_none_of X G z_sum, a_BoundError := q0, g_BoundError := ca0, m_BoundError := PySem.W.mg_of X G ca0, o_BoundError := errO_mk PySem.F.excBase_ValueError ca0 (PySem.W.mg_of X G ca0) cq0 ck0 ce0 cy0, a_InvalidNumber := q1, g_InvalidNumber := ca1, m_InvalidNumber := PySem.W.mg_of X G ca1, e_InvalidNumber := fun P => errC_mk ca1 (PySem.W.mg_of X G ca1) (oex_mk cl1 co1 cs1 ce1 cy1 ck1) cv1 ii1 iy1 (bi_init_InvalidNumber FI1) (init_ok FI1 rfl sc_init_InvalidNumber rfl rfl), d_InvalidNumber := fun P => errD_mk ca1 (PySem.W.mg_of X G ca1) (oex_mk cl1 co1 cs1 ce1 cy1 ck1) cv1 ii1 iy1 (bi_init_InvalidNumber FI1) (init_ok FI1 rfl sc_init_InvalidNumber rfl rfl) (b0_init_InvalidNumber FI1) (bk_init_InvalidNumber FI1), a_InvalidName := q2, g_InvalidName := ca2, m_InvalidName := PySem.W.mg_of X G ca2, e_InvalidName := fun P => errC_mk ca2 (PySem.W.mg_of X G ca2) (oex_mk cl2 co2 cs2 ce2 cy2 ck2) cv2 ii2 iy2 (bi_init_InvalidName FI2) (init_ok FI2 rfl sc_init_InvalidName rfl rfl), d_InvalidName := fun P => errD_mk ca2 (PySem.W.mg_of X G ca2) (oex_mk cl2 co2 cs2 ce2 cy2 ck2) cv2 ii2 iy2 (bi_init_InvalidName FI2) (init_ok FI2 rfl sc_init_InvalidName rfl rfl) (b0_init_InvalidName FI2) (bk_init_InvalidName FI2), a_InvalidRange := q3, g_InvalidRange := ca3, m_InvalidRange := PySem.W.mg_of X G ca3, e_InvalidRange := fun P => errC_mk ca3 (PySem.W.mg_of X G ca3) (oex_mk cl3 co3 cs3 ce3 cy3 ck3) cv3 ii3 iy3 (bi_init_InvalidRange FI3) (init_ok FI3 rfl sc_init_InvalidRange rfl rfl), d_InvalidRange := fun P => errD_mk ca3 (PySem.W.mg_of X G ca3) (oex_mk cl3 co3 cs3 ce3 cy3 ck3) cv3 ii3 iy3 (bi_init_InvalidRange FI3) (init_ok FI3 rfl sc_init_InvalidRange rfl rfl) (b0_init_InvalidRange FI3) (bk_init_InvalidRange FI3), a_InvalidProgram := q4, g_InvalidProgram := ca4, m_InvalidProgram := PySem.W.mg_of X G ca4, e_InvalidProgram := fun P => errC_mk ca4 (PySem.W.mg_of X G ca4) (oex_mk cl4 co4 cs4 ce4 cy4 ck4) cv4 ii4 iy4 (bi_init_InvalidProgram FI4) (init_ok FI4 rfl sc_init_InvalidProgram rfl rfl), d_InvalidProgram := fun P => errD_mk ca4 (PySem.W.mg_of X G ca4) (oex_mk cl4 co4 cs4 ce4 cy4 ck4) cv4 ii4 iy4 (bi_init_InvalidProgram FI4) (init_ok FI4 rfl sc_init_InvalidProgram rfl rfl) (b0_init_InvalidProgram FI4) (bk_init_InvalidProgram FI4), a_InvalidStep := q5, g_InvalidStep := ca5, m_InvalidStep := PySem.W.mg_of X G ca5, e_InvalidStep := fun P => errC_mk ca5 (PySem.W.mg_of X G ca5) (oex_mk cl5 co5 cs5 ce5 cy5 ck5) cv5 ii5 iy5 (bi_init_InvalidStep FI5) (init_ok FI5 rfl sc_init_InvalidStep rfl rfl), d_InvalidStep := fun P => errD_mk ca5 (PySem.W.mg_of X G ca5) (oex_mk cl5 co5 cs5 ce5 cy5 ck5) cv5 ii5 iy5 (bi_init_InvalidStep FI5) (init_ok FI5 rfl sc_init_InvalidStep rfl rfl) (b0_init_InvalidStep FI5) (bk_init_InvalidStep FI5), a_InvalidDeed := q6, g_InvalidDeed := ca6, m_InvalidDeed := PySem.W.mg_of X G ca6, e_InvalidDeed := fun P => errC_mk ca6 (PySem.W.mg_of X G ca6) (oex_mk cl6 co6 cs6 ce6 cy6 ck6) cv6 ii6 iy6 (bi_init_InvalidDeed FI6) (init_ok FI6 rfl sc_init_InvalidDeed rfl rfl), d_InvalidDeed := fun P => errD_mk ca6 (PySem.W.mg_of X G ca6) (oex_mk cl6 co6 cs6 ce6 cy6 ck6) cv6 ii6 iy6 (bi_init_InvalidDeed FI6) (init_ok FI6 rfl sc_init_InvalidDeed rfl rfl) (b0_init_InvalidDeed FI6) (bk_init_InvalidDeed FI6), a_InvalidPlace := q7, g_InvalidPlace := ca7, m_InvalidPlace := PySem.W.mg_of X G ca7, e_InvalidPlace := fun P => errC_mk ca7 (PySem.W.mg_of X G ca7) (oex_mk cl7 co7 cs7 ce7 cy7 ck7) cv7 ii7 iy7 (bi_init_InvalidPlace FI7) (init_ok FI7 rfl sc_init_InvalidPlace rfl rfl), d_InvalidPlace := fun P => errD_mk ca7 (PySem.W.mg_of X G ca7) (oex_mk cl7 co7 cs7 ce7 cy7 ck7) cv7 ii7 iy7 (bi_init_InvalidPlace FI7) (init_ok FI7 rfl sc_init_InvalidPlace rfl rfl) (b0_init_InvalidPlace FI7) (bk_init_InvalidPlace FI7), a_InvalidBound := q8, g_InvalidBound := ca8, m_InvalidBound := PySem.W.mg_of X G ca8, e_InvalidBound := fun P => errC_mk ca8 (PySem.W.mg_of X G ca8) (oex_mk cl8 co8 cs8 ce8 cy8 ck8) cv8 ii8 iy8 (bi_init_InvalidBound FI8) (init_ok FI8 rfl sc_init_InvalidBound rfl rfl), d_InvalidBound := fun P => errD_mk ca8 (PySem.W.mg_of X G ca8) (oex_mk cl8 co8 cs8 ce8 cy8 ck8) cv8 ii8 iy8 (bi_init_InvalidBound FI8) (init_ok FI8 rfl sc_init_InvalidBound rfl rfl) (b0_init_InvalidBound FI8) (bk_init_InvalidBound FI8), a_InvalidState := q9, g_InvalidState := ca9, m_InvalidState := PySem.W.mg_of X G ca9, e_InvalidState := fun P => errC_mk ca9 (PySem.W.mg_of X G ca9) (oex_mk cl9 co9 cs9 ce9 cy9 ck9) cv9 ii9 iy9 (bi_init_InvalidState FI9) (init_ok FI9 rfl sc_init_InvalidState rfl rfl), d_InvalidState := fun P => errD_mk ca9 (PySem.W.mg_of X G ca9) (oex_mk cl9 co9 cs9 ce9 cy9 ck9) cv9 ii9 iy9 (bi_init_InvalidState FI9) (init_ok FI9 rfl sc_init_InvalidState rfl rfl) (b0_init_InvalidState FI9) (bk_init_InvalidState FI9), a_InvalidRun := q10, g_InvalidRun := ca10, m_InvalidRun := PySem.W.mg_of X G ca10, e_InvalidRun := fun P => errC_mk ca10 (PySem.W.mg_of X G ca10) (oex_mk cl10 co10 cs10 ce10 cy10 ck10) cv10 ii10 iy10 (bi_init_InvalidRun FI10) (init_ok FI10 rfl sc_init_InvalidRun rfl rfl), d_InvalidRun := fun P => errD_mk ca10 (PySem.W.mg_of X G ca10) (oex_mk cl10 co10 cs10 ce10 cy10 ck10) cv10 ii10 iy10 (bi_init_InvalidRun FI10) (init_ok FI10 rfl sc_init_InvalidRun rfl rfl) (b0_init_InvalidRun FI10) (bk_init_InvalidRun FI10), a_InvalidRow := q11, g_InvalidRow := ca11, m_InvalidRow := PySem.W.mg_of X G ca11, e_InvalidRow := fun P => errC_mk ca11 (PySem.W.mg_of X G ca11) (oex_mk cl11 co11 cs11 ce11 cy11 ck11) cv11 ii11 iy11 (bi_init_InvalidRow FI11) (init_ok FI11 rfl sc_init_InvalidRow rfl rfl), d_InvalidRow := fun P => errD_mk ca11 (PySem.W.mg_of X G ca11) (oex_mk cl11 co11 cs11 ce11 cy11 ck11) cv11 ii11 iy11 (bi_init_InvalidRow FI11) (init_ok FI11 rfl sc_init_InvalidRow rfl rfl) (b0_init_InvalidRow FI11) (bk_init_InvalidRow FI11), a_InvalidTable := q12, g_InvalidTable := ca12, m_InvalidTable := PySem.W.mg_of X G ca12, e_InvalidTable := fun P => errC_mk ca12 (PySem.W.mg_of X G ca12) (oex_mk cl12 co12 cs12 ce12 cy12 ck12) cv12 ii12 iy12 (bi_init_InvalidTable FI12) (init_ok FI12 rfl sc_init_InvalidTable rfl rfl), d_InvalidTable := fun P => errD_mk ca12 (PySem.W.mg_of X G ca12) (oex_mk cl12 co12 cs12 ce12 cy12 ck12) cv12 ii12 iy12 (bi_init_InvalidTable FI12) (init_ok FI12 rfl sc_init_InvalidTable rfl rfl) (b0_init_InvalidTable FI12) (bk_init_InvalidTable FI12), a_InvalidOpen := q13, g_InvalidOpen := ca13, m_InvalidOpen := PySem.W.mg_of X G ca13, e_InvalidOpen := fun P => errC_mk ca13 (PySem.W.mg_of X G ca13) (oex_mk cl13 co13 cs13 ce13 cy13 ck13) cv13 ii13 iy13 (bi_init_InvalidOpen FI13) (init_ok FI13 rfl sc_init_InvalidOpen rfl rfl), d_InvalidOpen := fun P => errD_mk ca13 (PySem.W.mg_of X G ca13) (oex_mk cl13 co13 cs13 ce13 cy13 ck13) cv13 ii13 iy13 (bi_init_InvalidOpen FI13) (init_ok FI13 rfl sc_init_InvalidOpen rfl rfl) (b0_init_InvalidOpen FI13) (bk_init_InvalidOpen FI13), a_InvalidPlan := q14, g_InvalidPlan := ca14, m_InvalidPlan := PySem.W.mg_of X G ca14, e_InvalidPlan := fun P => errC_mk ca14 (PySem.W.mg_of X G ca14) (oex_mk cl14 co14 cs14 ce14 cy14 ck14) cv14 ii14 iy14 (bi_init_InvalidPlan FI14) (init_ok FI14 rfl sc_init_InvalidPlan rfl rfl), d_InvalidPlan := fun P => errD_mk ca14 (PySem.W.mg_of X G ca14) (oex_mk cl14 co14 cs14 ce14 cy14 ck14) cv14 ii14 iy14 (bi_init_InvalidPlan FI14) (init_ok FI14 rfl sc_init_InvalidPlan rfl rfl) (b0_init_InvalidPlan FI14) (bk_init_InvalidPlan FI14), a_InvalidPaper := q15, g_InvalidPaper := ca15, m_InvalidPaper := PySem.W.mg_of X G ca15, e_InvalidPaper := fun P => errC_mk ca15 (PySem.W.mg_of X G ca15) (oex_mk cl15 co15 cs15 ce15 cy15 ck15) cv15 ii15 iy15 (bi_init_InvalidPaper FI15) (init_ok FI15 rfl sc_init_InvalidPaper rfl rfl), d_InvalidPaper := fun P => errD_mk ca15 (PySem.W.mg_of X G ca15) (oex_mk cl15 co15 cs15 ce15 cy15 ck15) cv15 ii15 iy15 (bi_init_InvalidPaper FI15) (init_ok FI15 rfl sc_init_InvalidPaper rfl rfl) (b0_init_InvalidPaper FI15) (bk_init_InvalidPaper FI15), a_InvalidWidth := q16, g_InvalidWidth := ca16, m_InvalidWidth := PySem.W.mg_of X G ca16, e_InvalidWidth := fun P => errC_mk ca16 (PySem.W.mg_of X G ca16) (oex_mk cl16 co16 cs16 ce16 cy16 ck16) cv16 ii16 iy16 (bi_init_InvalidWidth FI16) (init_ok FI16 rfl sc_init_InvalidWidth rfl rfl), d_InvalidWidth := fun P => errD_mk ca16 (PySem.W.mg_of X G ca16) (oex_mk cl16 co16 cs16 ce16 cy16 ck16) cv16 ii16 iy16 (bi_init_InvalidWidth FI16) (init_ok FI16 rfl sc_init_InvalidWidth rfl rfl) (b0_init_InvalidWidth FI16) (bk_init_InvalidWidth FI16), a_InvalidWish := q17, g_InvalidWish := ca17, m_InvalidWish := PySem.W.mg_of X G ca17, e_InvalidWish := fun P => errC_mk ca17 (PySem.W.mg_of X G ca17) (oex_mk cl17 co17 cs17 ce17 cy17 ck17) cv17 ii17 iy17 (bi_init_InvalidWish FI17) (init_ok FI17 rfl sc_init_InvalidWish rfl rfl), d_InvalidWish := fun P => errD_mk ca17 (PySem.W.mg_of X G ca17) (oex_mk cl17 co17 cs17 ce17 cy17 ck17) cv17 ii17 iy17 (bi_init_InvalidWish FI17) (init_ok FI17 rfl sc_init_InvalidWish rfl rfl) (b0_init_InvalidWish FI17) (bk_init_InvalidWish FI17), a_InvalidText := q18, g_InvalidText := ca18, m_InvalidText := PySem.W.mg_of X G ca18, e_InvalidText := fun P => errC_mk ca18 (PySem.W.mg_of X G ca18) (oex_mk cl18 co18 cs18 ce18 cy18 ck18) cv18 ii18 iy18 (bi_init_InvalidText FI18) (init_ok FI18 rfl sc_init_InvalidText rfl rfl), d_InvalidText := fun P => errD_mk ca18 (PySem.W.mg_of X G ca18) (oex_mk cl18 co18 cs18 ce18 cy18 ck18) cv18 ii18 iy18 (bi_init_InvalidText FI18) (init_ok FI18 rfl sc_init_InvalidText rfl rfl) (b0_init_InvalidText FI18) (bk_init_InvalidText FI18), a_InvalidEdit := q19, g_InvalidEdit := ca19, m_InvalidEdit := PySem.W.mg_of X G ca19, e_InvalidEdit := fun P => errC_mk ca19 (PySem.W.mg_of X G ca19) (oex_mk cl19 co19 cs19 ce19 cy19 ck19) cv19 ii19 iy19 (bi_init_InvalidEdit FI19) (init_ok FI19 rfl sc_init_InvalidEdit rfl rfl), d_InvalidEdit := fun P => errD_mk ca19 (PySem.W.mg_of X G ca19) (oex_mk cl19 co19 cs19 ce19 cy19 ck19) cv19 ii19 iy19 (bi_init_InvalidEdit FI19) (init_ok FI19 rfl sc_init_InvalidEdit rfl rfl) (b0_init_InvalidEdit FI19) (bk_init_InvalidEdit FI19), a_Unlike := q20, g_Unlike := ca20, m_Unlike := PySem.W.mg_of X G ca20, e_Unlike := fun P => errC_mk ca20 (PySem.W.mg_of X G ca20) (oex_mk cl20 co20 cs20 ce20 cy20 ck20) cv20 ii20 iy20 (bi_init_Unlike FI20) (init_ok FI20 rfl sc_init_Unlike rfl rfl), d_Unlike := fun P => errD_mk ca20 (PySem.W.mg_of X G ca20) (oex_mk cl20 co20 cs20 ce20 cy20 ck20) cv20 ii20 iy20 (bi_init_Unlike FI20) (init_ok FI20 rfl sc_init_Unlike rfl rfl) (b0_init_Unlike FI20) (bk_init_Unlike FI20), a_TooMany := q21, g_TooMany := ca21, m_TooMany := PySem.W.mg_of X G ca21, e_TooMany := fun P => errC_mk ca21 (PySem.W.mg_of X G ca21) (oex_mk cl21 co21 cs21 ce21 cy21 ck21) cv21 ii21 iy21 (bi_init_TooMany FI21) (init_ok FI21 rfl sc_init_TooMany rfl rfl), d_TooMany := fun P => errD_mk ca21 (PySem.W.mg_of X G ca21) (oex_mk cl21 co21 cs21 ce21 cy21 ck21) cv21 ii21 iy21 (bi_init_TooMany FI21) (init_ok FI21 rfl sc_init_TooMany rfl rfl) (b0_init_TooMany FI21) (bk_init_TooMany FI21), a_Stuck := q22, g_Stuck := ca22, m_Stuck := PySem.W.mg_of X G ca22, e_Stuck := fun P => errC_mk ca22 (PySem.W.mg_of X G ca22) (oex_mk cl22 co22 cs22 ce22 cy22 ck22) cv22 ii22 iy22 (bi_init_Stuck FI22) (init_ok FI22 rfl sc_init_Stuck rfl rfl), d_Stuck := fun P => errD_mk ca22 (PySem.W.mg_of X G ca22) (oex_mk cl22 co22 cs22 ce22 cy22 ck22) cv22 ii22 iy22 (bi_init_Stuck FI22) (init_ok FI22 rfl sc_init_Stuck rfl rfl) (b0_init_Stuck FI22) (bk_init_Stuck FI22), a_NothingToUndo := q23, g_NothingToUndo := ca23, m_NothingToUndo := PySem.W.mg_of X G ca23, o_NothingToUndo := errO_mk PySem.F.excBase_ValueError ca23 (PySem.W.mg_of X G ca23) cq23 ck23 ce23 cy23, a_NothingToRedo := q24, g_NothingToRedo := ca24, m_NothingToRedo := PySem.W.mg_of X G ca24, o_NothingToRedo := errO_mk PySem.F.excBase_ValueError ca24 (PySem.W.mg_of X G ca24) cq24 ck24 ce24 cy24, it := isT_all (sup := kkSUP) (cl := [("BoundError", q0), ("InvalidNumber", q1), ("InvalidName", q2), ("InvalidRange", q3), ("InvalidProgram", q4), ("InvalidStep", q5), ("InvalidDeed", q6), ("InvalidPlace", q7), ("InvalidBound", q8), ("InvalidState", q9), ("InvalidRun", q10), ("InvalidRow", q11), ("InvalidTable", q12), ("InvalidOpen", q13), ("InvalidPlan", q14), ("InvalidPaper", q15), ("InvalidWidth", q16), ("InvalidWish", q17), ("InvalidText", q18), ("InvalidEdit", q19), ("Unlike", q20), ("TooMany", q21), ("Stuck", q22), ("NothingToUndo", q23), ("NothingToRedo", q24)]) sp tk sS (List.forall_mem_cons.mpr ⟨⟨ca0, xc0, ch0, cy0, cE0, cn0⟩, List.forall_mem_cons.mpr ⟨⟨ca1, xc1, ch1, cy1, cE1, cn1⟩, List.forall_mem_cons.mpr ⟨⟨ca2, xc2, ch2, cy2, cE2, cn2⟩, List.forall_mem_cons.mpr ⟨⟨ca3, xc3, ch3, cy3, cE3, cn3⟩, List.forall_mem_cons.mpr ⟨⟨ca4, xc4, ch4, cy4, cE4, cn4⟩, List.forall_mem_cons.mpr ⟨⟨ca5, xc5, ch5, cy5, cE5, cn5⟩, List.forall_mem_cons.mpr ⟨⟨ca6, xc6, ch6, cy6, cE6, cn6⟩, List.forall_mem_cons.mpr ⟨⟨ca7, xc7, ch7, cy7, cE7, cn7⟩, List.forall_mem_cons.mpr ⟨⟨ca8, xc8, ch8, cy8, cE8, cn8⟩, List.forall_mem_cons.mpr ⟨⟨ca9, xc9, ch9, cy9, cE9, cn9⟩, List.forall_mem_cons.mpr ⟨⟨ca10, xc10, ch10, cy10, cE10, cn10⟩, List.forall_mem_cons.mpr ⟨⟨ca11, xc11, ch11, cy11, cE11, cn11⟩, List.forall_mem_cons.mpr ⟨⟨ca12, xc12, ch12, cy12, cE12, cn12⟩, List.forall_mem_cons.mpr ⟨⟨ca13, xc13, ch13, cy13, cE13, cn13⟩, List.forall_mem_cons.mpr ⟨⟨ca14, xc14, ch14, cy14, cE14, cn14⟩, List.forall_mem_cons.mpr ⟨⟨ca15, xc15, ch15, cy15, cE15, cn15⟩, List.forall_mem_cons.mpr ⟨⟨ca16, xc16, ch16, cy16, cE16, cn16⟩, List.forall_mem_cons.mpr ⟨⟨ca17, xc17, ch17, cy17, cE17, cn17⟩, List.forall_mem_cons.mpr ⟨⟨ca18, xc18, ch18, cy18, cE18, cn18⟩, List.forall_mem_cons.mpr ⟨⟨ca19, xc19, ch19, cy19, cE19, cn19⟩, List.forall_mem_cons.mpr ⟨⟨ca20, xc20, ch20, cy20, cE20, cn20⟩, List.forall_mem_cons.mpr ⟨⟨ca21, xc21, ch21, cy21, cE21, cn21⟩, List.forall_mem_cons.mpr ⟨⟨ca22, xc22, ch22, cy22, cE22, cn22⟩, List.forall_mem_cons.mpr ⟨⟨ca23, xc23, ch23, cy23, cE23, cn23⟩, List.forall_mem_cons.mpr ⟨⟨ca24, xc24, ch24, cy24, cE24, cn24⟩, List.forall_mem_nil _⟩⟩⟩⟩⟩⟩⟩⟩⟩⟩⟩⟩⟩⟩⟩⟩⟩⟩⟩⟩⟩⟩⟩⟩⟩), er := Errs.cons ca1 xc1 (Errs.cons ca2 xc2 (Errs.cons ca3 xc3 (Errs.cons ca4 xc4 (Errs.cons ca5 xc5 (Errs.cons ca6 xc6 (Errs.cons ca7 xc7 (Errs.cons ca8 xc8 (Errs.cons ca9 xc9 (Errs.cons ca10 xc10 (Errs.cons ca11 xc11 (Errs.cons ca12 xc12 (Errs.cons ca13 xc13 (Errs.cons ca14 xc14 (Errs.cons ca15 xc15 (Errs.cons ca16 xc16 (Errs.cons ca17 xc17 (Errs.cons ca18 xc18 (Errs.cons ca19 xc19 (Errs.cons ca20 xc20 (Errs.cons ca21 xc21 (Errs.cons ca22 xc22 (Errs.nil)))))))))))))))))))))), tb := tb }
  exact ⟨_, [], TF, List.forall_mem_nil _, List.forall_mem_nil _, List.forall_mem_nil _, fun s v => .of_eq rfl, fun base _ _ hT => ok_law (C base (tabsB_mk TF hT))⟩
end K04
namespace Sp
open PySem PySem.Spec PyProof.Rows L2 Lv Com
theorem pick_nil {α : Type} {l : List α} : pick l [] = [] := rfl
theorem pick_cons {α : Type} {l : List α} {i : Nat} {r : List Nat} : pick l (i :: r) = (match l[i]? with
    | some x => x :: pick l r
    | none => pick l r) := rfl
abbrev End := Option Int
abbrev Rg := End × End
def dO : End → D
  | none => .non
  | some i => .int i
def dR (r : Rg) : D := .tup [dO r.1, dO r.2]
def dN (zs : List Str) : D := .vl (zs.map D.str)
def dRow (rs : List Rg) : D := .vl (rs.map dR)
@[simp] theorem dO_none : dO none = .non := rfl
@[simp] theorem dO_some {i : Int} : dO (some i) = .int i := rfl
@[simp] theorem nr_dO {e : End} : noRef (dO e) = true := by cases e <;> simp [dO]
@[simp] theorem nr_dR {r : Rg} : noRef (dR r) = true := by simp [dR]
@[simp] theorem nr_dN {zs : List Str} : noRef (dN zs) = true := by
  unfold dN
  rw [nr_vl]
  exact nrs_map fun _ _ => by simp
@[simp] theorem nrs_rows {rs : List Rg} : noRefs (rs.map dR) = true := nrs_map fun _ _ => by simp
@[simp] theorem nrs_strs {rs : List Str} : noRefs (rs.map D.str) = true := nrs_map fun _ _ => by simp
@[simp] theorem nrs_ints {rs : List Int} : noRefs (rs.map D.int) = true := nrs_map fun _ _ => by simp
@[simp] theorem nr_dRow {rs : List Rg} : noRef (dRow rs) = true := by simp [dRow]
@[simp] theorem non_dR {r : Rg} : isNon (dR r) = false := rfl
section
variable {fu : Nat} {S : Sto}
@[simp] theorem whole_int {i : Int} : c_a_whole fu [.int i] S = some (.bl true, S) := by
  simp [c_a_whole, u_a_whole, b_a_whole, shut_same]
@[simp] theorem end_dO {e : End} : c_an_end fu [dO e] S = some (.bl true, S) := by
  cases e <;> simp [c_an_end, u_an_end, b_an_end, shut_same]
def okR : Rg → Bool
  | (some a, some b) => decide (a ≤ b)
  | _ => true
def isLet (c : Nat) : Bool := fLe [97] [c] && fLe [c] [122]
def isDig (c : Nat) : Bool := fLe [48] [c] && fLe [c] [57]
def lets : List Nat → Nat
  | [] => 0
  | c :: r => if isLet c then lets r + 1 else 0
def shortC (cs : List Nat) : Bool := !(decide (3 < cs.length) || (decide (1 < cs.length) && cs.head? == some 48)) && cs.all isDig
def isName (z : Str) : Bool := decide (1 ≤ lets z.cps.toList) && decide (lets z.cps.toList ≤ 6) && shortC (z.cps.toList.drop (lets z.cps.toList))
end
end Sp
namespace Sp
open PySem PySem.Spec PyProof.Rows L2 Lv Com
section
variable {fu : Nat} {S : Sto}
def LtS (a b : Str) : Prop := fLt a.cps.toList b.cps.toList = true
def ascB : List Str → Bool
  | a :: b :: r => fLt a.cps.toList b.cps.toList && ascB (b :: r)
  | _ => true
def pairs : List Str → List (Str × Str)
  | a :: b :: r => (a, b) :: pairs (b :: r)
  | _ => []
def namesB (zs : List Str) : Bool := !zs.isEmpty && (zs.all isName && ascB zs)
inductive Part where
  | pn (x : Str) | pc (i : Int) | pr (r : Rg)
def Part.form : Part → Str
  | .pn _ => "n"
  | .pc _ => "c"
  | .pr _ => "r"
def Part.val : Part → D
  | .pn x => .str x
  | .pc i => .int i
  | .pr r => dR r
def Part.ok (zs : List Str) : Part → Bool
  | .pn x => zs.contains x
  | .pc _ => true
  | .pr r => okR r
inductive Deed where
  | dgo
  | dset (x : Str) (n : Int)
  | dadd (x : Str) (y : Str) (n : Int)
  | dturn (x : Str) (y : Str) (n : Int)
  | dinput (x : Str) (r : Rg)
  | dleast (x : Str) (y : Str) (z : Str)
  | dgreatest (x : Str) (y : Str) (z : Str)
  | dupto (x : Str) (n : Int)
  | dfrom (x : Str) (n : Int)
  | dbelow (x : Str) (y : Str) (n : Int)
  | dequal (x : Str) (y : Str) (n : Int)
def dParts : Deed → List Part
  | .dgo => []
  | .dset x n => [.pn x, .pc n]
  | .dadd x y n => [.pn x, .pn y, .pc n]
  | .dturn x y n => [.pn x, .pn y, .pc n]
  | .dinput x r => [.pn x, .pr r]
  | .dleast x y z => [.pn x, .pn y, .pn z]
  | .dgreatest x y z => [.pn x, .pn y, .pn z]
  | .dupto x n => [.pn x, .pc n]
  | .dfrom x n => [.pn x, .pc n]
  | .dbelow x y n => [.pn x, .pn y, .pc n]
  | .dequal x y n => [.pn x, .pn y, .pc n]
def dArgs : Deed → List D
  | .dgo => []
  | .dset x n => [.str x, .int n]
  | .dadd x y n => [.str x, .str y, .int n]
  | .dturn x y n => [.str x, .str y, .int n]
  | .dinput x r => [.str x, dR r]
  | .dleast x y z => [.str x, .str y, .str z]
  | .dgreatest x y z => [.str x, .str y, .str z]
  | .dupto x n => [.str x, .int n]
  | .dfrom x n => [.str x, .int n]
  | .dbelow x y n => [.str x, .str y, .int n]
  | .dequal x y n => [.str x, .str y, .int n]
def dWord : Deed → Str
  | .dgo => "go"
  | .dset _ _ => "set"
  | .dadd _ _ _ => "add"
  | .dturn _ _ _ => "turn"
  | .dinput _ _ => "input"
  | .dleast _ _ _ => "least"
  | .dgreatest _ _ _ => "greatest"
  | .dupto _ _ => "upto"
  | .dfrom _ _ => "from"
  | .dbelow _ _ _ => "below"
  | .dequal _ _ _ => "equal"
def dD (d : Deed) : D := .tup (.str (dWord d) :: dArgs d)
def dPair : Deed → Bool
  | .dbelow x y _ => decide (x ≠ y)
  | .dequal x y _ => decide (x ≠ y)
  | _ => true
def okD (zs : List Str) (d : Deed) : Bool := (dParts d).all (Part.ok zs) && dPair d
@[simp] theorem nr_dD {d : Deed} : noRef (dD d) = true := by
  cases d <;> simp [dD, dArgs]
structure Stp where
  src : Int
  tgt : Int
  deed : Deed
def dS (s : Stp) : D := .tup [.int s.src, .int s.tgt, dD s.deed]
def inM (m i : Int) : Bool := decide (0 ≤ i) && decide (i < m)
def okS (zs : List Str) (m : Int) (s : Stp) : Bool := inM m s.src && (inM m s.tgt && okD zs s.deed)
@[simp] theorem nr_dS {s : Stp} : noRef (dS s) = true := by simp [dS]
structure Prg where
  names : List Str
  many : Int
  start : List Rg
  steps : List Stp
def dP (p : Prg) : D := .tup [dN p.names, .int p.many, dRow p.start, .vl (p.steps.map dS)]
@[simp] theorem nrs_steps {ss : List Stp} : noRefs (ss.map dS) = true := nrs_map fun _ _ => by simp
@[simp] theorem nr_dP {p : Prg} : noRef (dP p) = true := by simp [dP]
def okP (p : Prg) : Bool := (namesB p.names && (decide (1 ≤ p.many) && (decide (p.start.length = p.names.length) && p.start.all okR))) && p.steps.all (okS p.names p.many)
structure SmP (p : Prg) : Prop where
  n : p.names.length ≤ 1000
  z : ∀ z ∈ p.names, z.length ≤ 1000
  s : p.start.length ≤ 1000
  t : p.steps.length ≤ 1000
end
end Sp
namespace Sp
open PySem PySem.Spec PyProof.Rows L2 Lv Com
section
variable {fu : Nat} {S : Sto}
theorem listOf_cases {S : Sto} {d : D} {xs : List D} (h : Lv.listOf S d = some xs) : d = .kl xs ∨ d = .vl xs ∨ ∃ k c, d = .ref k ∧ S[k]? = some c ∧ c.its = some xs := by
  cases d with
  | kl ds => cases h; exact .inl rfl
  | vl ds => cases h; exact .inr (.inl rfl)
  | ref k =>
    simp only [Lv.listOf] at h
    split at h
    · rename_i c hc
      exact .inr (.inr ⟨k, c, rfl, hc, h⟩)
    · cases h
  | _ => cases h
theorem items_of_list {d : D} {xs : List D} (h : Lv.listOf S d = some xs) : itemsOf S d = some xs := by
  rcases listOf_cases h with rfl | rfl | ⟨k, c, rfl, hc, hi⟩
  · rfl
  · rfl
  · simp only [itemsOf, hc]
    exact hi
theorem len_list {d : D} {xs : List D} (h : Lv.listOf S d = some xs) : cLen [d] S = some (.int xs.length, S) := by
  have h2 := items_of_list h
  rcases listOf_cases h with rfl | rfl | ⟨k, c, rfl, hc, hi⟩
  · rfl
  · rfl
  · simp only [cLen, h2]
theorem ix_list' {d : D} {xs : List D} {i : Int} (h : Lv.listOf S d = some xs) : gIx d (.int i) S = (match atI xs i with
  | some e => some (e, S)
  | none => none) := by
  rcases listOf_cases h with rfl | rfl | ⟨k, c, rfl, hc, hi⟩
  · rfl
  · rfl
  · have e := Cell.its_items hi
    subst e
    exact r_ix_ref hc hi
theorem sl_list' {d : D} {xs : List D} {lo hi : Option Int} (h : Lv.listOf S d = some xs) : gSl false d lo hi S = some (.vl (Lv.cutD xs lo hi), S) := by
  rcases listOf_cases h with rfl | rfl | ⟨k, c, rfl, hc, hi⟩
  · rfl
  · rfl
  · have e := Cell.its_items hi
    subst e
    simp only [gSl, Lv.listOf, hc, hi]
    rfl
theorem ints_of : ∀ ns : List Int, intsD (ns.map D.int) = some ns
  | [] => rfl
  | n :: ns => by
    have ih := ints_of ns
    unfold intsD at ih ⊢
    simp only [List.map_cons, mapO]
    rw [ih]
theorem cut_map {ns : List Int} {lo hi : Option Int} : ∃ ms : List Int, Lv.cutD (ns.map D.int) lo hi = ms.map D.int := by
  unfold Lv.cutD
  rw [← List.map_drop, ← List.map_take]
  exact ⟨_, rfl⟩
theorem cell_ok {d : D} {ns : List Int} {i : Nat} (h : Lv.listOf S d = some (ns.map D.int)) : ∃ z : Int, c__law_cell fu [d, .int i] S = some (.int z, S) := by
  unfold c__law_cell u__law_cell b__law_cell
  have hlen := len_list h
  rw [List.length_map] at hlen
  by_cases hi : i < ns.length
  · refine ⟨ns[i], ?_⟩
    have e : atI (ns.map D.int) (i : Int) = some (.int ns[i]) := atI_nat (by rw [List.getElem?_map, List.getElem?_eq_getElem hi]; rfl)
    have hi' : decide ((i : Int) < (ns.length : Int)) = true := decide_eq_true (by omega)
    simp only [r_sCons, r_sIf, r_tAnd, r_tOr, r_tNot, r_truB, r_truF, r_truD_bl, r_eBin, r_eVar, r_eC, r_eCall, r_eCallK, r_aCons, r_aNil, r_eAnd, r_eOr, r_eNotT, r_eIf, r_eNeg, r_eChain, r_sNil, r_sDrop, r_sRet, r_sSet, r_sAsg, r_sPar, r_nm, r_tp, r_sets, r_sets0, List.getElem?_cons_zero, List.getElem?_cons_succ, List.set_cons_zero, List.set_cons_succ, List.length_cons, List.length_nil, List.map_cons, List.map_nil, List.cons_append, List.nil_append, Nat.zero_add, Nat.reduceAdd, Nat.sub_self, Nat.reduceSub, Nat.add_zero, List.reduceReplicate, List.replicate_zero, List.append_nil, if_true, if_false, Bool.false_eq_true, Bool.not_true, Bool.not_false, Bool.true_and, Bool.and_true, Bool.false_and, Bool.and_false, Bool.or_true, Bool.true_or, Bool.false_or, Bool.or_false, reduceIte, r_fnF, r_sealed, r_start, t_tup0, t_tup1, t_tup2, t_tup3, t_tup4, t_lst0, t_lst1, t_lst2, t_lst3, t_lst4, t_lst5, t_lst6, t_lst7, t_lst8, t_lst9, t_lst10, r_mkV, r_mkR, r_isN, r_non0, r_non1, r_non2, r_non3, r_non4, r_non5, r_non6, isi_int, isi_intb, isi_tup, isi_str, isi_vl, isi_ints, isi_tups, r_cmp2i, r_cmp2t, r_cmpI, r_eqv_int, r_eqv_str, r_add, r_sub, r_arith, r_ix_tup, r_ix_vl, r_len_tup, r_len_vl, r_cInt, r_cMin, r_cMax, r_lof_vl, r_lof_tup, r_tof_vl, r_tof_tup, r_truD_vl, r_truD_tup, r_truD_int, r_truD_non, r_oSome, r_oNone, r_eSl, r_sl_vl, r_sl_tup, r_iAny, r_eMethL, r_isRef_vl, ix20, ix21, nr_int, nr_bl, nr_non, nr_str, nr_tup, nr_vl, nrs_nil, nrs_cons, shut_same, pick_nil, pick_cons, decide_true, decide_false, hlen, hi', ix_list' h, e]
  · obtain ⟨ms, hm⟩ := cut_map (ns := ns) (lo := none) (hi := some 1)
    refine ⟨ms.sum % 1000003, ?_⟩
    have hi' : decide ((i : Int) < (ns.length : Int)) = false := decide_eq_false (by omega)
    have e1 : cSum [.vl (ms.map D.int)] S = some (.int ms.sum, S) := by
      simp only [cSum, r_list_vl, ints_of]
    have e2 := mod_ok (i := ms.sum) (j := 1000003) (by decide)
    simp only [r_sCons, r_sIf, r_tAnd, r_tOr, r_tNot, r_truB, r_truF, r_truD_bl, r_eBin, r_eVar, r_eC, r_eCall, r_eCallK, r_aCons, r_aNil, r_eAnd, r_eOr, r_eNotT, r_eIf, r_eNeg, r_eChain, r_sNil, r_sDrop, r_sRet, r_sSet, r_sAsg, r_sPar, r_nm, r_tp, r_sets, r_sets0, List.getElem?_cons_zero, List.getElem?_cons_succ, List.set_cons_zero, List.set_cons_succ, List.length_cons, List.length_nil, List.map_cons, List.map_nil, List.cons_append, List.nil_append, Nat.zero_add, Nat.reduceAdd, Nat.sub_self, Nat.reduceSub, Nat.add_zero, List.reduceReplicate, List.replicate_zero, List.append_nil, if_true, if_false, Bool.false_eq_true, Bool.not_true, Bool.not_false, Bool.true_and, Bool.and_true, Bool.false_and, Bool.and_false, Bool.or_true, Bool.true_or, Bool.false_or, Bool.or_false, reduceIte, r_fnF, r_sealed, r_start, t_tup0, t_tup1, t_tup2, t_tup3, t_tup4, t_lst0, t_lst1, t_lst2, t_lst3, t_lst4, t_lst5, t_lst6, t_lst7, t_lst8, t_lst9, t_lst10, r_mkV, r_mkR, r_isN, r_non0, r_non1, r_non2, r_non3, r_non4, r_non5, r_non6, isi_int, isi_intb, isi_tup, isi_str, isi_vl, isi_ints, isi_tups, r_cmp2i, r_cmp2t, r_cmpI, r_eqv_int, r_eqv_str, r_add, r_sub, r_arith, r_ix_tup, r_ix_vl, r_len_tup, r_len_vl, r_cInt, r_cMin, r_cMax, r_lof_vl, r_lof_tup, r_tof_vl, r_tof_tup, r_truD_vl, r_truD_tup, r_truD_int, r_truD_non, r_oSome, r_oNone, r_eSl, r_sl_vl, r_sl_tup, r_iAny, r_eMethL, r_isRef_vl, ix20, ix21, nr_int, nr_bl, nr_non, nr_str, nr_tup, nr_vl, nrs_nil, nrs_cons, shut_same, pick_nil, pick_cons, decide_true, decide_false, hlen, hi', sl_list' h, hm, e1, e2]
theorem pow18 : fPow 10 18 = some (10 ^ 18) := by decide +kernel
theorem pow60 : fPow 10 60 = some (10 ^ 60) := by decide +kernel
theorem pow600 : fPow (10 ^ 60) 10 = some (10 ^ 600) := by decide +kernel
theorem pow600' : (0 : Int) < 10 ^ 600 := by decide +kernel
theorem pow600b : (10 : Int) ^ 600 < 2 ^ 2000 := by decide +kernel
theorem generator_ok {d : D} {ns : List Int} {i : Nat} (h : Lv.listOf S d = some (ns.map D.int)) (hi : i < 1000) : ∃ G : Gn, v__law_generator fu [d, .int i] S = some (.ref S.length, S ++ [gc G]) ∧ OkG (1000 * i) G := by
  obtain ⟨z, hz⟩ := cell_ok (fu := fu) (i := i) h
  have e2 : ∀ x : Int, fMod x (10 ^ 600) = some (x % 10 ^ 600) := fun x => mod_ok pow600'
  have e3 := mod_ok (i := z) (j := 2147483647) (by decide)
  have e4 : fMul 1000 (i : Int) = some (1000 * (i : Int)) := mul_ok (show Sm 10 1000 by unfold Sm; decide) (show Sm 10 (i : Int) from .of (by omega) (by omega)) (by decide)
  refine ⟨⟨(if (0 : Int) > z - 10 ^ 18 then 0 else z - 10 ^ 18) % 10 ^ 600, z % 2147483647, 1000 * i⟩, ?_, .of (Int.emod_nonneg _ (Int.ne_of_gt pow600')) (Int.lt_trans (Int.emod_lt_of_pos _ pow600') pow600b), ⟨Int.emod_nonneg _ (by decide), Int.lt_trans (Int.emod_lt_of_pos _ (by decide)) (by decide)⟩, by show (0 : Int) ≤ 1000 * i; omega, Int.le_refl _⟩
  unfold v__law_generator uv__law_generator bv__law_generator
  rw [r_sealedR]
  simp only [r_sCons, r_sIf, r_tAnd, r_tOr, r_tNot, r_truB, r_truF, r_truD_bl, r_eBin, r_eVar, r_eC, r_eCall, r_eCallK, r_aCons, r_aNil, r_eAnd, r_eOr, r_eNotT, r_eIf, r_eNeg, r_eChain, r_sNil, r_sDrop, r_sRet, r_sSet, r_sAsg, r_sPar, r_nm, r_tp, r_sets, r_sets0, List.getElem?_cons_zero, List.getElem?_cons_succ, List.set_cons_zero, List.set_cons_succ, List.length_cons, List.length_nil, List.map_cons, List.map_nil, List.cons_append, List.nil_append, Nat.zero_add, Nat.reduceAdd, Nat.sub_self, Nat.reduceSub, Nat.add_zero, List.reduceReplicate, List.replicate_zero, List.append_nil, if_true, if_false, Bool.false_eq_true, Bool.not_true, Bool.not_false, Bool.true_and, Bool.and_true, Bool.false_and, Bool.and_false, Bool.or_true, Bool.true_or, Bool.false_or, Bool.or_false, reduceIte, r_fnF, r_sealed, r_start, t_tup0, t_tup1, t_tup2, t_tup3, t_tup4, t_lst0, t_lst1, t_lst2, t_lst3, t_lst4, t_lst5, t_lst6, t_lst7, t_lst8, t_lst9, t_lst10, r_mkV, r_mkR, r_isN, r_non0, r_non1, r_non2, r_non3, r_non4, r_non5, r_non6, isi_int, isi_intb, isi_tup, isi_str, isi_vl, isi_ints, isi_tups, r_cmp2i, r_cmp2t, r_cmpI, r_eqv_int, r_eqv_str, r_add, r_sub, r_arith, r_ix_tup, r_ix_vl, r_len_tup, r_len_vl, r_cInt, r_cMin, r_cMax, r_lof_vl, r_lof_tup, r_tof_vl, r_tof_tup, r_truD_vl, r_truD_tup, r_truD_int, r_truD_non, r_oSome, r_oNone, r_eSl, r_sl_vl, r_sl_tup, r_iAny, r_eMethL, r_isRef_vl, ix20, ix21, nr_int, nr_bl, nr_non, nr_str, nr_tup, nr_vl, nrs_nil, nrs_cons, shut_same, pick_nil, pick_cons, decide_true, decide_false, hz, pow18, pow60, pow600, e2, e3, e4, r_arith]
  exact shutR_vl (T := []) rfl
def BdO (m : Int) (e : End) : Prop := ∀ i, e = some i → -m ≤ i ∧ i ≤ m
def BdR (m : Int) (r : Rg) : Prop := BdO m r.1 ∧ BdO m r.2
end
end Sp
namespace Sp
open PySem PySem.Spec PyProof.Rows L2 Lv Com
section
variable {fu : Nat} {S : Sto}
def mx (a b : Int) : Int := if b > a then b else a
def gl : End → End → End
  | none, x => x
  | some x, none => some x
  | some x, some y => some (mx x y)
def ep (a : End) (n : Int) : End := a.map (· + n)
theorem r0 {r : Rg} : gIx (dR r) (.int 0) S = some (dO r.1, S) := rfl
theorem r1 {r : Rg} : gIx (dR r) (.int 1) S = some (dO r.2, S) := rfl
def dOR : Option Rg → D
  | none => .non
  | some r => dR r
@[simp] theorem nr_dOR {r : Option Rg} : noRef (dOR r) = true := by cases r <;> simp [dOR]
def at_ (zs : List Str) (x : Str) (rs : List Rg) : Rg := rs.getD (zs.idxOf x) (none, none)
theorem layAll {ps : List PyData} (h : ∀ p ∈ ps, p.canLay0 = true) : PyData.canLayAll0 ps = true := by
  induction ps with
  | nil => rfl
  | cons p ps ih =>
    unfold PyData.canLayAll0
    rw [h p List.mem_cons_self, ih fun q hq => h q (List.mem_cons_of_mem _ hq)]
    rfl
theorem depAll {ps : List PyData} {k : Nat} (h : ∀ p ∈ ps, p.depth ≤ k) : PyData.depthAll ps ≤ k := by
  induction ps with
  | nil => exact Nat.zero_le _
  | cons p ps ih =>
    unfold PyData.depthAll
    exact Nat.max_le.mpr ⟨h p List.mem_cons_self, ih fun q hq => h q (List.mem_cons_of_mem _ hq)⟩
theorem shaped_of {p : PyData} {k : Nat} (h1 : p.canLay0 = true) (h2 : p.depth ≤ k) (h3 : k ≤ 64) : SeqAt.shaped p = true := by
  unfold SeqAt.shaped
  rw [h1, Bool.true_and]
  exact decide_eq_true (by omega)
end
end Sp
namespace Sp
open PySem PySem.Spec PyProof.Rows L2 Lv Com
section
variable {fu : Nat} {S : Sto}
def dORow : Option (List Rg) → D
  | none => .non
  | some rs => dRow rs
@[simp] theorem nr_dORow {o : Option (List Rg)} : noRef (dORow o) = true := by cases o <;> simp [dORow]
end
end Sp
namespace Sp
open PySem PySem.Spec PyProof.Rows L2 Lv Com
section
variable {fu : Nat} {S : Sto}
abbrev Pr := Int × Int
def dPr (p : Pr) : D := .tup [.int p.1, .int p.2]
def dPs (ps : List Pr) : D := .vl (ps.map dPr)
def F59 : Int := 10 ^ 59
def F60 : Int := 10 ^ 60
@[simp] theorem nr_dPr {p : Pr} : noRef (dPr p) = true := by simp [dPr]
@[simp] theorem nrs_dPr {ps : List Pr} : noRefs (ps.map dPr) = true := nrs_map fun _ _ => by simp
@[simp] theorem nr_dPs {ps : List Pr} : noRef (dPs ps) = true := by simp [dPs]
def pr (r : Rg) : Pr := (r.1.getD (-F60), r.2.getD F60)
def en (p : Pr) : Rg := (if p.1 < -F59 then none else some p.1, if F59 < p.2 then none else some p.2)
def dOP : Option (List Pr) → D
  | none => .non
  | some ps => dPs ps
@[simp] theorem nr_dOP {o : Option (List Pr)} : noRef (dOP o) = true := by cases o <;> simp [dOP]
theorem p1 {p : Pr} : gIx (dPr p) (.int 1) S = some (.int p.2, S) := rfl
end
end Sp
namespace Sp
open PySem PySem.Spec PyProof.Rows L2 Lv Com
section
variable {fu : Nat} {S : Sto}
end
end Sp
namespace Sp
open PySem PySem.Spec PyProof.Rows L2 Lv Com
def M : Int := 10 ^ 40
section
variable {r q : Rg} {n a b : Int}
def IsL (l : Int) (e : End) : Prop := match e with
  | none => l ≤ -F59
  | some i => l = i ∧ -F59 < i ∧ i < F59
end
end Sp
namespace Sp
open PySem PySem.Spec PyProof.Rows L2 Lv Com
section
variable {zs : List Str} {rs : List Rg}
end
end Sp
namespace Sp
open PySem PySem.Spec PyProof.Rows L2 Lv Com
section
variable {fu : Nat} {S : Sto}
def dNs (ns : List Int) : D := .vl (ns.map D.int)
@[simp] theorem nr_dNs {ns : List Int} : noRef (dNs ns) = true := by simp [dNs]
@[simp] theorem nrs_dNs {F : List (List Int)} : noRefs (F.map dNs) = true := nrs_map fun _ _ => by simp
def atN (zs : List Str) (x : Str) (ns : List Int) : Int := ns.getD (zs.idxOf x) 0
def passes (zs : List Str) (d : Deed) (ns : List Int) : Bool := match d with
  | .dupto x n => decide (atN zs x ns ≤ n)
  | .dfrom x n => decide (n ≤ atN zs x ns)
  | .dbelow x y n => decide (atN zs x ns ≤ atN zs y ns + n)
  | .dequal x y n => atN zs x ns == atN zs y ns + n
  | _ => true
def rgI (i j : Int) : List Int := (List.range (j - i).toNat).map fun k => i + (k : Nat)
end
end Sp
namespace Sp
open PySem PySem.Spec PyProof.Rows L2 Lv Com
section
variable {fu : Nat} {S : Sto}
def more (F : List (List Int)) (p : Pr) : List (List Int) := F.flatMap fun ns => (rgI p.1 (p.2 + 1)).map fun i => ns ++ [i]
end
end Sp
namespace Sp
open PySem PySem.Spec PyProof.Rows L2 Lv Com
theorem getD_set {α : Type} {v : List α} {i j : Nat} {a z : α} (hi : i < v.length) : (v.set i a).getD j z = if i = j then a else v.getD j z := by
  rw [List.getD_eq_getElem?_getD, List.getD_eq_getElem?_getD]
  by_cases h : i = j
  · subst h
    rw [if_pos rfl, List.getElem?_set_self hi]
    rfl
  · rw [if_neg h, List.getElem?_set_ne h]
def InR (p : Pr) (i : Int) : Prop := p.1 ≤ i ∧ i ≤ p.2
def St (ps : List Pr) (v : List Int) : Prop := v.length = ps.length ∧ ∀ i, i < ps.length → InR (ps.getD i (0, 0)) (v.getD i 0)
theorem St.set {ps : List Pr} {v : List Int} {i : Nat} {a : Int} (h : St ps v) (ha : i < ps.length → InR (ps.getD i (0, 0)) a) : St ps (v.set i a) := by
  refine ⟨by rw [List.length_set]; exact h.1, fun j hj => ?_⟩
  by_cases hi : i < v.length
  · rw [getD_set hi]
    split
    · rename_i e; subst e; exact ha hj
    · exact h.2 j hj
  · rw [List.set_eq_of_length_le (by omega)]
    exact h.2 j hj
section
variable {zs : List Str} {ps : List Pr}
end
end Sp
namespace Sp
open PySem PySem.Spec PyProof.Rows L2 Lv Com
section
variable {fu : Nat} {S : Sto}
end
end Sp
namespace Sp
open PySem PySem.Spec PyProof.Rows L2 Lv Com
def menu : List Str := ["a", "b", "b1", "b10", "below", "from", "k0", "least", "x", "zzzzzz999"]
theorem menu_nm : ∀ z ∈ menu, isName z = true ∧ z.length ≤ 1000 := by
  have h : menu.all (fun z => isName z && decide (z.length ≤ 1000)) = true := by unfold menu; decide +kernel
  intro z hz
  have := List.all_eq_true.mp h z hz
  rw [Bool.and_eq_true] at this
  exact ⟨this.1, of_decide_eq_true this.2⟩
section
variable {fu : Nat} {S : Sto}
theorem asc_of : ∀ {zs : List Str}, zs.Pairwise LtS → ascB zs = true
  | [], _ => rfl
  | [a], _ => rfl
  | a :: b :: r, h => by
    have h' := List.pairwise_cons.mp h
    unfold ascB
    rw [show fLt a.cps.toList b.cps.toList = true from h'.1 b List.mem_cons_self, asc_of h'.2]
    rfl
theorem namesB_of {zs : List Str} (h1 : 1 ≤ zs.length) (hm : ∀ z ∈ zs, z ∈ menu) (hp : zs.Pairwise LtS) : namesB zs = true := by
  unfold namesB
  rw [asc_of hp, List.all_eq_true.mpr fun z hz => (menu_nm z (hm z hz)).1]
  cases zs with
  | nil => simp at h1
  | cons _ _ => rfl
end
end Sp
namespace Sp
open PySem PySem.Spec PyProof.Rows L2 Lv Com
section
variable {fu : Nat} {S : Sto}
def BdD (m : Int) : Deed → Prop
  | .dset _ n => -m ≤ n ∧ n ≤ m
  | .dadd _ _ n => -m ≤ n ∧ n ≤ m
  | .dturn _ _ n => -m ≤ n ∧ n ≤ m
  | .dinput _ r => okR r = true ∧ BdR m r
  | .dupto _ n => -m ≤ n ∧ n ≤ m
  | .dfrom _ n => -m ≤ n ∧ n ≤ m
  | .dbelow _ _ n => -m ≤ n ∧ n ≤ m
  | .dequal _ _ n => -m ≤ n ∧ n ≤ m
  | _ => True
end
end Sp
namespace Sp
open PySem PySem.Spec PyProof.Rows L2 Lv Com
structure Fi (k L : Nat) (p : PyData) : Prop where
  sh : p.showable = true
  nd : p.hasDict = false
  dp : p.depth ≤ k
  ln : p.shown.length ≤ L
theorem fi_non : Fi 0 4 .none := ⟨rfl, rfl, Nat.le_refl _, by decide +kernel⟩
theorem fi_bl (b : Bool) : Fi 0 5 (.bool b) := ⟨rfl, rfl, Nat.le_refl _, by cases b <;> decide +kernel⟩
theorem fi_int {i : Int} (h : Sm 1000 i) : Fi 0 1010 (.int i) := by
  refine ⟨?_, rfl, Nat.le_refl _, ?_⟩
  · show decide (i.natAbs.log2 < 1920) = true
    have := h.log
    exact decide_eq_true (by omega)
  · unfold PyData.shown
    have h1 := int_text_length_le (a := i) (k := 1001) (by decide) (Nat.lt_succ_of_le h.log)
    rw [PySem.ofString_length]
    omega
theorem Fi.mono {k L k' L' : Nat} {p : PyData} (h : Fi k L p) (hk : k ≤ k') (hL : L ≤ L') : Fi k' L' p := ⟨h.sh, h.nd, Nat.le_trans h.dp hk, Nat.le_trans h.ln hL⟩
theorem sh_all : ∀ {ps : List PyData}, (∀ p ∈ ps, p.showable = true) → PyData.showableAll ps = true
  | [], _ => rfl
  | p :: ps, h => by
    unfold PyData.showableAll
    rw [h p List.mem_cons_self, sh_all fun q hq => h q (List.mem_cons_of_mem _ hq)]
    rfl
theorem nd_all : ∀ {ps : List PyData}, (∀ p ∈ ps, p.hasDict = false) → PyData.hasDictAll ps = false
  | [], _ => rfl
  | p :: ps, h => by
    unfold PyData.hasDictAll
    rw [h p List.mem_cons_self, nd_all fun q hq => h q (List.mem_cons_of_mem _ hq)]
    rfl
theorem dp_all {k : Nat} : ∀ {ps : List PyData}, (∀ p ∈ ps, p.depth ≤ k) → PyData.depthAll ps ≤ k
  | [], _ => Nat.zero_le _
  | p :: ps, h => by
    unfold PyData.depthAll
    have h1 := h p List.mem_cons_self
    have h2 := dp_all fun q hq => h q (List.mem_cons_of_mem _ hq)
    omega
theorem ln_all {L : Nat} : ∀ {ps : List PyData}, (∀ p ∈ ps, p.shown.length ≤ L) → ((PyData.shownAll ps).map (·.length)).sum ≤ L * ps.length ∧ (PyData.shownAll ps).length = ps.length
  | [], _ => ⟨Nat.zero_le _, rfl⟩
  | p :: ps, h => by
    unfold PyData.shownAll
    have h1 := h p List.mem_cons_self
    obtain ⟨h2, h3⟩ := ln_all fun q hq => h q (List.mem_cons_of_mem _ hq)
    simp only [List.map_cons, List.sum_cons, List.length_cons, h3, Nat.mul_succ, and_true]
    omega
theorem fi_list {k L n : Nat} {ps : List PyData} (h : ∀ p ∈ ps, Fi k L p) (hn : ps.length ≤ n) : Fi (k + 1) ((L + 2) * n + 3) (.list ps) := by
  refine ⟨sh_all fun p hp => (h p hp).sh, nd_all fun p hp => (h p hp).nd, Nat.succ_le_succ (dp_all fun p hp => (h p hp).dp), ?_⟩
  obtain ⟨h1, h2⟩ := ln_all fun p hp => (h p hp).ln
  have h3 := listText_len_le (PyData.shownAll ps)
  rw [h2] at h3
  show (listText (PyData.shownAll ps)).length ≤ _
  have h4 : (L + 2) * ps.length ≤ (L + 2) * n := Nat.mul_le_mul_left _ hn
  rw [Nat.add_mul] at h4
  omega
theorem fi_tuple {k L n : Nat} {ps : List PyData} (h : ∀ p ∈ ps, Fi k L p) (hn : ps.length ≤ n) : Fi (k + 1) ((L + 2) * n + 3) (.tuple ps) := by
  refine ⟨sh_all fun p hp => (h p hp).sh, nd_all fun p hp => (h p hp).nd, Nat.succ_le_succ (dp_all fun p hp => (h p hp).dp), ?_⟩
  obtain ⟨h1, h2⟩ := ln_all fun p hp => (h p hp).ln
  have h3 := tupleText_len_le (PyData.shownAll ps)
  rw [h2] at h3
  show (tupleText (PyData.shownAll ps)).length ≤ _
  have h4 : (L + 2) * ps.length ≤ (L + 2) * n := Nat.mul_le_mul_left _ hn
  rw [Nat.add_mul] at h4
  omega
theorem repr_ok {S : Sto} {d : D} {p : PyData} {k L : Nat} (e : toP 60 S d = some p) (hf : Fi k L p) (hk : k ≤ 50) (hL : L ≤ 10000000) : cRepr [d] S = some (.str p.shown, S) := by
  have c3 : decide (p.depth ≤ 60) = true := decide_eq_true (by have := hf.dp; omega)
  have c4 : sizeP p = true := decide_eq_true (Nat.le_trans (Nat.le_trans hf.ln hL) (by decide))
  rw [cRepr_of e, hf.sh, hf.nd, c3, c4]
  rfl
section
variable {S : Sto}
end
end Sp
namespace Sp
open PySem PySem.Spec PyProof.Rows L2 Lv Com
open K04 hiding c__law_made
def nm22 : List Str := ["InvalidNumber", "InvalidName", "InvalidRange", "InvalidProgram", "InvalidStep", "InvalidDeed", "InvalidPlace", "InvalidBound", "InvalidState", "InvalidRun", "InvalidRow", "InvalidTable", "InvalidOpen", "InvalidPlan", "InvalidPaper", "InvalidWidth", "InvalidWish", "InvalidText", "InvalidEdit", "Unlike", "TooMany", "Stuck"]
def nm24 : List Str := ["InvalidNumber", "InvalidName", "InvalidRange", "InvalidProgram", "InvalidStep", "InvalidDeed", "InvalidPlace", "InvalidBound", "InvalidState", "InvalidRun", "InvalidRow", "InvalidTable", "InvalidOpen", "InvalidPlan", "InvalidPaper", "InvalidWidth", "InvalidWish", "InvalidText", "InvalidEdit", "Unlike", "TooMany", "Stuck", "NothingToUndo", "NothingToRedo"]
def dMade (v : D) : D := .vl (nm22.map fun n => .exc n v)
section
variable {S : Sto} {fu : Nat}
theorem oldok_same : OldOk S S := ⟨Nat.le_refl _, fun i _ => .inl rfl⟩
theorem shut_keep {z : D} (h : fz S.length S 20 z = some z) : shut S z S = some (z, S) := by
  unfold shut
  rw [if_pos oldok_same, h]
  simp
def OkV (S : Sto) (v : D) : Prop := ∀ k, fz S.length S (k + 1) v = some v
theorem okv_nr {v : D} (h : noRef v = true) : OkV S v := fun k => by
  unfold fz
  rw [if_pos h]
theorem okv_ref {j : Nat} (h : j < S.length) : OkV S (.ref j) := fun k => by
  unfold fz
  simp [noRef, h]
theorem fz_exc {v : D} (h : OkV S v) (n : Str) : fz S.length S 19 (.exc n v) = some (.exc n v) := by
  unfold fz
  split
  · rfl
  · dsimp only
    rw [show fz S.length S 18 v = some v from h 17]
theorem fz_excs {v : D} (h : OkV S v) : ∀ ns : List Str, mapO (fz S.length S 19) (ns.map fun n => D.exc n v) = some (ns.map fun n => D.exc n v)
  | [] => rfl
  | n :: ns => by
    rw [List.map_cons]
    unfold mapO
    rw [fz_exc h n, fz_excs h ns]
theorem fz_made {v : D} (h : OkV S v) : fz S.length S 20 (dMade v) = some (dMade v) := by
  unfold fz
  split
  · rfl
  · unfold dMade
    dsimp only
    rw [fz_excs h nm22]
theorem made4_ok {v : D} (h : OkV S v) : K04.c__law_made fu [v] S = some (dMade v, S) := by
  unfold K04.c__law_made sealed K04.u__law_made
  rw [fn_eq (np := 1) rfl (show K04.b__law_made fu [some v, none] S = some (.rt (dMade v), S) from by with_unfolding_all rfl)]
  exact shut_keep (fz_made h)
theorem by_name_ok {v : D} (h : OkV S v) : c__law_by_name fu [v] S = some (dMade v, S) := by
  unfold c__law_by_name sealed u__law_by_name
  rw [fn_eq (np := 1) rfl (show b__law_by_name fu [some v, none] S = some (.rt (dMade v), S) from by with_unfolding_all rfl)]
  exact shut_keep (fz_made h)
theorem empty_ok : c__law_empty fu [] S = some (dMade .non, S) := by
  unfold c__law_empty sealed u__law_empty
  rw [fn_eq (np := 0) rfl (show b__law_empty fu [none] S = some (.rt (dMade .non), S) from by with_unfolding_all rfl)]
  exact shut_keep (fz_made (okv_nr rfl))
theorem lookup_fn {α β : Type} [BEq α] [LawfulBEq α] (f : α → β) (k : α) : ∀ {l : List (α × β)}, (∀ p ∈ l, p.2 = f p.1) → (∃ p ∈ l, p.1 = k) → l.lookup k = some (f k)
  | [], _, h => by
    obtain ⟨p, hp, _⟩ := h
    cases hp
  | (x, y) :: l, ha, h => by
    rw [List.lookup_cons]
    split
    · rename_i hb
      have e := eq_of_beq hb
      subst e
      exact congrArg some (ha _ List.mem_cons_self)
    · rename_i hb
      obtain ⟨p, hp, e⟩ := h
      rcases List.mem_cons.mp hp with rfl | hp
      · subst e
        simp at hb
      · exact lookup_fn f k (fun q hq => ha q (List.mem_cons_of_mem _ hq)) ⟨p, hp, e⟩
theorem lookup_tg {sup : List (Str × Str)} {ns : List Str} {a b : Str} (ha : a ∈ ns) (hb : b ∈ ns) : (tgAll sup ns).lookup (a, b) = some (supOf sup a b) :=
  lookup_fn (l := tgAll sup ns) (fun p : Str × Str => supOf sup p.1 p.2) (a, b) (fun p hp => by
    unfold tgAll at hp
    obtain ⟨x, _, hp⟩ := List.mem_flatMap.mp hp
    obtain ⟨y, _, rfl⟩ := List.mem_map.mp hp
    rfl) ⟨((a, b), supOf sup a b), List.mem_flatMap.mpr ⟨a, ha, List.mem_map.mpr ⟨b, hb, rfl⟩⟩, rfl⟩
theorem isx {n m : Str} {v : D} (hn : n ∈ kkNM) (hm : m ∈ kkNM) : cIsX kkTG kkTV kkTN [.exc n v, .gl m] S = some (.bl (supOf kkSUP n m), S) := by
  show (match (tgAll kkSUP kkNM).lookup (n, m) with
    | some b => some (D.bl b, S)
    | none => none) = _
  rw [lookup_tg hn hm]
theorem isv {n : Str} {v : D} (hn : n ∈ kkNM) : cIsX kkTG kkTV kkTN [.exc n v, .ty "ValueError"] S = some (.bl true, S) := by
  show (if ("ValueError" == "ValueError" && kkTV.contains n) = true then some (D.bl true, S) else none) = _
  rw [if_pos (by
    rw [Bool.and_eq_true]
    exact ⟨rfl, List.contains_iff_mem.mpr hn⟩)]
theorem in_nm : ∀ m ∈ nm24, m ∈ kkNM := by decide +kernel
theorem nm22_in : ∀ m ∈ nm22, m ∈ kkNM := by decide +kernel
theorem bound_in : ("BoundError" : Str) ∈ kkNM := by decide +kernel

theorem add_vl {a b : List D} (h : a.length + b.length ≤ 1000) : gAdd false (.vl a) (.vl b) S = some (.vl (a ++ b), S) := by
  show (if a.length + b.length ≤ lim then some (mkV false (a ++ b) S) else none) = _
  rw [if_pos (Nat.le_trans h (by decide))]
  rfl
theorem kinds_ok {n : Str} {v : D} (hn : n ∈ kkNM) : c__law_kinds fu [.exc n v] S = some (.vl (nm24.map fun m => .bl (supOf kkSUP n m)), S) := by
  have i0 : ∀ S : Sto, cIsX kkTG kkTV kkTN [.exc n v, .gl "InvalidNumber"] S = some (.bl (supOf kkSUP n "InvalidNumber"), S) := fun S => isx hn (in_nm _ (by simp [nm24]))
  have i1 : ∀ S : Sto, cIsX kkTG kkTV kkTN [.exc n v, .gl "InvalidName"] S = some (.bl (supOf kkSUP n "InvalidName"), S) := fun S => isx hn (in_nm _ (by simp [nm24]))
  have i2 : ∀ S : Sto, cIsX kkTG kkTV kkTN [.exc n v, .gl "InvalidRange"] S = some (.bl (supOf kkSUP n "InvalidRange"), S) := fun S => isx hn (in_nm _ (by simp [nm24]))
  have i3 : ∀ S : Sto, cIsX kkTG kkTV kkTN [.exc n v, .gl "InvalidProgram"] S = some (.bl (supOf kkSUP n "InvalidProgram"), S) := fun S => isx hn (in_nm _ (by simp [nm24]))
  have i4 : ∀ S : Sto, cIsX kkTG kkTV kkTN [.exc n v, .gl "InvalidStep"] S = some (.bl (supOf kkSUP n "InvalidStep"), S) := fun S => isx hn (in_nm _ (by simp [nm24]))
  have i5 : ∀ S : Sto, cIsX kkTG kkTV kkTN [.exc n v, .gl "InvalidDeed"] S = some (.bl (supOf kkSUP n "InvalidDeed"), S) := fun S => isx hn (in_nm _ (by simp [nm24]))
  have i6 : ∀ S : Sto, cIsX kkTG kkTV kkTN [.exc n v, .gl "InvalidPlace"] S = some (.bl (supOf kkSUP n "InvalidPlace"), S) := fun S => isx hn (in_nm _ (by simp [nm24]))
  have i7 : ∀ S : Sto, cIsX kkTG kkTV kkTN [.exc n v, .gl "InvalidBound"] S = some (.bl (supOf kkSUP n "InvalidBound"), S) := fun S => isx hn (in_nm _ (by simp [nm24]))
  have i8 : ∀ S : Sto, cIsX kkTG kkTV kkTN [.exc n v, .gl "InvalidState"] S = some (.bl (supOf kkSUP n "InvalidState"), S) := fun S => isx hn (in_nm _ (by simp [nm24]))
  have i9 : ∀ S : Sto, cIsX kkTG kkTV kkTN [.exc n v, .gl "InvalidRun"] S = some (.bl (supOf kkSUP n "InvalidRun"), S) := fun S => isx hn (in_nm _ (by simp [nm24]))
  have i10 : ∀ S : Sto, cIsX kkTG kkTV kkTN [.exc n v, .gl "InvalidRow"] S = some (.bl (supOf kkSUP n "InvalidRow"), S) := fun S => isx hn (in_nm _ (by simp [nm24]))
  have i11 : ∀ S : Sto, cIsX kkTG kkTV kkTN [.exc n v, .gl "InvalidTable"] S = some (.bl (supOf kkSUP n "InvalidTable"), S) := fun S => isx hn (in_nm _ (by simp [nm24]))
  have i12 : ∀ S : Sto, cIsX kkTG kkTV kkTN [.exc n v, .gl "InvalidOpen"] S = some (.bl (supOf kkSUP n "InvalidOpen"), S) := fun S => isx hn (in_nm _ (by simp [nm24]))
  have i13 : ∀ S : Sto, cIsX kkTG kkTV kkTN [.exc n v, .gl "InvalidPlan"] S = some (.bl (supOf kkSUP n "InvalidPlan"), S) := fun S => isx hn (in_nm _ (by simp [nm24]))
  have i14 : ∀ S : Sto, cIsX kkTG kkTV kkTN [.exc n v, .gl "InvalidPaper"] S = some (.bl (supOf kkSUP n "InvalidPaper"), S) := fun S => isx hn (in_nm _ (by simp [nm24]))
  have i15 : ∀ S : Sto, cIsX kkTG kkTV kkTN [.exc n v, .gl "InvalidWidth"] S = some (.bl (supOf kkSUP n "InvalidWidth"), S) := fun S => isx hn (in_nm _ (by simp [nm24]))
  have i16 : ∀ S : Sto, cIsX kkTG kkTV kkTN [.exc n v, .gl "InvalidWish"] S = some (.bl (supOf kkSUP n "InvalidWish"), S) := fun S => isx hn (in_nm _ (by simp [nm24]))
  have i17 : ∀ S : Sto, cIsX kkTG kkTV kkTN [.exc n v, .gl "InvalidText"] S = some (.bl (supOf kkSUP n "InvalidText"), S) := fun S => isx hn (in_nm _ (by simp [nm24]))
  have i18 : ∀ S : Sto, cIsX kkTG kkTV kkTN [.exc n v, .gl "InvalidEdit"] S = some (.bl (supOf kkSUP n "InvalidEdit"), S) := fun S => isx hn (in_nm _ (by simp [nm24]))
  have i19 : ∀ S : Sto, cIsX kkTG kkTV kkTN [.exc n v, .gl "Unlike"] S = some (.bl (supOf kkSUP n "Unlike"), S) := fun S => isx hn (in_nm _ (by simp [nm24]))
  have i20 : ∀ S : Sto, cIsX kkTG kkTV kkTN [.exc n v, .gl "TooMany"] S = some (.bl (supOf kkSUP n "TooMany"), S) := fun S => isx hn (in_nm _ (by simp [nm24]))
  have i21 : ∀ S : Sto, cIsX kkTG kkTV kkTN [.exc n v, .gl "Stuck"] S = some (.bl (supOf kkSUP n "Stuck"), S) := fun S => isx hn (in_nm _ (by simp [nm24]))
  have i22 : ∀ S : Sto, cIsX kkTG kkTV kkTN [.exc n v, .gl "NothingToUndo"] S = some (.bl (supOf kkSUP n "NothingToUndo"), S) := fun S => isx hn (in_nm _ (by simp [nm24]))
  have i23 : ∀ S : Sto, cIsX kkTG kkTV kkTN [.exc n v, .gl "NothingToRedo"] S = some (.bl (supOf kkSUP n "NothingToRedo"), S) := fun S => isx hn (in_nm _ (by simp [nm24]))
  unfold c__law_kinds sealed u__law_kinds
  rw [fn_eq (np := 1) rfl (show b__law_kinds fu [some (.exc n v), none] S = some (.rt (.vl (nm24.map fun m => .bl (supOf kkSUP n m))), S) from by
    unfold b__law_kinds
    simp only [r_sCons, r_sIf, r_tAnd, r_tOr, r_tNot, r_truB, r_truF, r_truD_bl, r_eBin, r_eVar, r_eC, r_eCall, r_eCallK, r_aCons, r_aNil, r_eAnd, r_eOr, r_eNotT, r_eIf, r_eNeg, r_eChain, r_sNil, r_sDrop, r_sRet, r_sSet, r_sAsg, r_sPar, r_nm, r_tp, r_sets, r_sets0, List.getElem?_cons_zero, List.getElem?_cons_succ, List.set_cons_zero, List.set_cons_succ, List.length_cons, List.length_nil, List.map_cons, List.map_nil, List.cons_append, List.nil_append, Nat.zero_add, Nat.reduceAdd, Nat.sub_self, Nat.reduceSub, Nat.add_zero, List.reduceReplicate, List.replicate_zero, List.append_nil, if_true, if_false, Bool.false_eq_true, Bool.not_true, Bool.not_false, Bool.true_and, Bool.and_true, Bool.false_and, Bool.and_false, Bool.or_true, Bool.true_or, Bool.false_or, Bool.or_false, reduceIte, r_fnF, r_sealed, r_start, t_tup0, t_tup1, t_tup2, t_tup3, t_tup4, t_lst0, t_lst1, t_lst2, t_lst3, t_lst4, t_lst5, t_lst6, t_lst7, t_lst8, t_lst9, t_lst10, r_mkV, r_mkR, r_isN, r_non0, r_non1, r_non2, r_non3, r_non4, r_non5, r_non6, isi_int, isi_intb, isi_tup, isi_str, isi_vl, isi_ints, isi_tups, r_cmp2i, r_cmp2t, r_cmpI, r_eqv_int, r_eqv_str, r_add, r_sub, r_arith, r_ix_tup, r_ix_vl, r_len_tup, r_len_vl, r_cInt, r_cMin, r_cMax, r_lof_vl, r_lof_tup, r_tof_vl, r_tof_tup, r_truD_vl, r_truD_tup, r_truD_int, r_truD_non, r_oSome, r_oNone, r_eSl, r_sl_vl, r_sl_tup, r_iAny, r_eMethL, r_isRef_vl, ix20, ix21, nr_int, nr_bl, nr_non, nr_str, nr_tup, nr_vl, nrs_nil, nrs_cons, shut_same, pick_nil, pick_cons, decide_true, decide_false, i0, i1, i2, i3, i4, i5, i6, i7, i8, i9, i10, i11, i12, i13, i14, i15, i16, i17, i18, i19, i20, i21, i22, i23]
    rw [add_vl (by simp)]
    simp only [r_sCons, r_sIf, r_tAnd, r_tOr, r_tNot, r_truB, r_truF, r_truD_bl, r_eBin, r_eVar, r_eC, r_eCall, r_eCallK, r_aCons, r_aNil, r_eAnd, r_eOr, r_eNotT, r_eIf, r_eNeg, r_eChain, r_sNil, r_sDrop, r_sRet, r_sSet, r_sAsg, r_sPar, r_nm, r_tp, r_sets, r_sets0, List.getElem?_cons_zero, List.getElem?_cons_succ, List.set_cons_zero, List.set_cons_succ, List.length_cons, List.length_nil, List.map_cons, List.map_nil, List.cons_append, List.nil_append, Nat.zero_add, Nat.reduceAdd, Nat.sub_self, Nat.reduceSub, Nat.add_zero, List.reduceReplicate, List.replicate_zero, List.append_nil, if_true, if_false, Bool.false_eq_true, Bool.not_true, Bool.not_false, Bool.true_and, Bool.and_true, Bool.false_and, Bool.and_false, Bool.or_true, Bool.true_or, Bool.false_or, Bool.or_false, reduceIte, r_fnF, r_sealed, r_start, t_tup0, t_tup1, t_tup2, t_tup3, t_tup4, t_lst0, t_lst1, t_lst2, t_lst3, t_lst4, t_lst5, t_lst6, t_lst7, t_lst8, t_lst9, t_lst10, r_mkV, r_mkR, r_isN, r_non0, r_non1, r_non2, r_non3, r_non4, r_non5, r_non6, isi_int, isi_intb, isi_tup, isi_str, isi_vl, isi_ints, isi_tups, r_cmp2i, r_cmp2t, r_cmpI, r_eqv_int, r_eqv_str, r_add, r_sub, r_arith, r_ix_tup, r_ix_vl, r_len_tup, r_len_vl, r_cInt, r_cMin, r_cMax, r_lof_vl, r_lof_tup, r_tof_vl, r_tof_tup, r_truD_vl, r_truD_tup, r_truD_int, r_truD_non, r_oSome, r_oNone, r_eSl, r_sl_vl, r_sl_tup, r_iAny, r_eMethL, r_isRef_vl, ix20, ix21, nr_int, nr_bl, nr_non, nr_str, nr_tup, nr_vl, nrs_nil, nrs_cons, shut_same, pick_nil, pick_cons, decide_true, decide_false, i0, i1, i2, i3, i4, i5, i6, i7, i8, i9, i10, i11, i12, i13, i14, i15, i16, i17, i18, i19, i20, i21, i22, i23]
    rw [add_vl (by simp)]
    simp only [r_sCons, r_sIf, r_tAnd, r_tOr, r_tNot, r_truB, r_truF, r_truD_bl, r_eBin, r_eVar, r_eC, r_eCall, r_eCallK, r_aCons, r_aNil, r_eAnd, r_eOr, r_eNotT, r_eIf, r_eNeg, r_eChain, r_sNil, r_sDrop, r_sRet, r_sSet, r_sAsg, r_sPar, r_nm, r_tp, r_sets, r_sets0, List.getElem?_cons_zero, List.getElem?_cons_succ, List.set_cons_zero, List.set_cons_succ, List.length_cons, List.length_nil, List.map_cons, List.map_nil, List.cons_append, List.nil_append, Nat.zero_add, Nat.reduceAdd, Nat.sub_self, Nat.reduceSub, Nat.add_zero, List.reduceReplicate, List.replicate_zero, List.append_nil, if_true, if_false, Bool.false_eq_true, Bool.not_true, Bool.not_false, Bool.true_and, Bool.and_true, Bool.false_and, Bool.and_false, Bool.or_true, Bool.true_or, Bool.false_or, Bool.or_false, reduceIte, r_fnF, r_sealed, r_start, t_tup0, t_tup1, t_tup2, t_tup3, t_tup4, t_lst0, t_lst1, t_lst2, t_lst3, t_lst4, t_lst5, t_lst6, t_lst7, t_lst8, t_lst9, t_lst10, r_mkV, r_mkR, r_isN, r_non0, r_non1, r_non2, r_non3, r_non4, r_non5, r_non6, isi_int, isi_intb, isi_tup, isi_str, isi_vl, isi_ints, isi_tups, r_cmp2i, r_cmp2t, r_cmpI, r_eqv_int, r_eqv_str, r_add, r_sub, r_arith, r_ix_tup, r_ix_vl, r_len_tup, r_len_vl, r_cInt, r_cMin, r_cMax, r_lof_vl, r_lof_tup, r_tof_vl, r_tof_tup, r_truD_vl, r_truD_tup, r_truD_int, r_truD_non, r_oSome, r_oNone, r_eSl, r_sl_vl, r_sl_tup, r_iAny, r_eMethL, r_isRef_vl, ix20, ix21, nr_int, nr_bl, nr_non, nr_str, nr_tup, nr_vl, nrs_nil, nrs_cons, shut_same, pick_nil, pick_cons, decide_true, decide_false, i0, i1, i2, i3, i4, i5, i6, i7, i8, i9, i10, i11, i12, i13, i14, i15, i16, i17, i18, i19, i20, i21, i22, i23]
    rw [add_vl (by simp)]
    simp only [r_sCons, r_sIf, r_tAnd, r_tOr, r_tNot, r_truB, r_truF, r_truD_bl, r_eBin, r_eVar, r_eC, r_eCall, r_eCallK, r_aCons, r_aNil, r_eAnd, r_eOr, r_eNotT, r_eIf, r_eNeg, r_eChain, r_sNil, r_sDrop, r_sRet, r_sSet, r_sAsg, r_sPar, r_nm, r_tp, r_sets, r_sets0, List.getElem?_cons_zero, List.getElem?_cons_succ, List.set_cons_zero, List.set_cons_succ, List.length_cons, List.length_nil, List.map_cons, List.map_nil, List.cons_append, List.nil_append, Nat.zero_add, Nat.reduceAdd, Nat.sub_self, Nat.reduceSub, Nat.add_zero, List.reduceReplicate, List.replicate_zero, List.append_nil, if_true, if_false, Bool.false_eq_true, Bool.not_true, Bool.not_false, Bool.true_and, Bool.and_true, Bool.false_and, Bool.and_false, Bool.or_true, Bool.true_or, Bool.false_or, Bool.or_false, reduceIte, r_fnF, r_sealed, r_start, t_tup0, t_tup1, t_tup2, t_tup3, t_tup4, t_lst0, t_lst1, t_lst2, t_lst3, t_lst4, t_lst5, t_lst6, t_lst7, t_lst8, t_lst9, t_lst10, r_mkV, r_mkR, r_isN, r_non0, r_non1, r_non2, r_non3, r_non4, r_non5, r_non6, isi_int, isi_intb, isi_tup, isi_str, isi_vl, isi_ints, isi_tups, r_cmp2i, r_cmp2t, r_cmpI, r_eqv_int, r_eqv_str, r_add, r_sub, r_arith, r_ix_tup, r_ix_vl, r_len_tup, r_len_vl, r_cInt, r_cMin, r_cMax, r_lof_vl, r_lof_tup, r_tof_vl, r_tof_tup, r_truD_vl, r_truD_tup, r_truD_int, r_truD_non, r_oSome, r_oNone, r_eSl, r_sl_vl, r_sl_tup, r_iAny, r_eMethL, r_isRef_vl, ix20, ix21, nr_int, nr_bl, nr_non, nr_str, nr_tup, nr_vl, nrs_nil, nrs_cons, shut_same, pick_nil, pick_cons, decide_true, decide_false, i0, i1, i2, i3, i4, i5, i6, i7, i8, i9, i10, i11, i12, i13, i14, i15, i16, i17, i18, i19, i20, i21, i22, i23]
    rw [add_vl (by simp)]
    simp only [r_sCons, r_sIf, r_tAnd, r_tOr, r_tNot, r_truB, r_truF, r_truD_bl, r_eBin, r_eVar, r_eC, r_eCall, r_eCallK, r_aCons, r_aNil, r_eAnd, r_eOr, r_eNotT, r_eIf, r_eNeg, r_eChain, r_sNil, r_sDrop, r_sRet, r_sSet, r_sAsg, r_sPar, r_nm, r_tp, r_sets, r_sets0, List.getElem?_cons_zero, List.getElem?_cons_succ, List.set_cons_zero, List.set_cons_succ, List.length_cons, List.length_nil, List.map_cons, List.map_nil, List.cons_append, List.nil_append, Nat.zero_add, Nat.reduceAdd, Nat.sub_self, Nat.reduceSub, Nat.add_zero, List.reduceReplicate, List.replicate_zero, List.append_nil, if_true, if_false, Bool.false_eq_true, Bool.not_true, Bool.not_false, Bool.true_and, Bool.and_true, Bool.false_and, Bool.and_false, Bool.or_true, Bool.true_or, Bool.false_or, Bool.or_false, reduceIte, r_fnF, r_sealed, r_start, t_tup0, t_tup1, t_tup2, t_tup3, t_tup4, t_lst0, t_lst1, t_lst2, t_lst3, t_lst4, t_lst5, t_lst6, t_lst7, t_lst8, t_lst9, t_lst10, r_mkV, r_mkR, r_isN, r_non0, r_non1, r_non2, r_non3, r_non4, r_non5, r_non6, isi_int, isi_intb, isi_tup, isi_str, isi_vl, isi_ints, isi_tups, r_cmp2i, r_cmp2t, r_cmpI, r_eqv_int, r_eqv_str, r_add, r_sub, r_arith, r_ix_tup, r_ix_vl, r_len_tup, r_len_vl, r_cInt, r_cMin, r_cMax, r_lof_vl, r_lof_tup, r_tof_vl, r_tof_tup, r_truD_vl, r_truD_tup, r_truD_int, r_truD_non, r_oSome, r_oNone, r_eSl, r_sl_vl, r_sl_tup, r_iAny, r_eMethL, r_isRef_vl, ix20, ix21, nr_int, nr_bl, nr_non, nr_str, nr_tup, nr_vl, nrs_nil, nrs_cons, shut_same, pick_nil, pick_cons, decide_true, decide_false, i0, i1, i2, i3, i4, i5, i6, i7, i8, i9, i10, i11, i12, i13, i14, i15, i16, i17, i18, i19, i20, i21, i22, i23]
    rw [add_vl (by simp)]
    simp only [r_sCons, r_sIf, r_tAnd, r_tOr, r_tNot, r_truB, r_truF, r_truD_bl, r_eBin, r_eVar, r_eC, r_eCall, r_eCallK, r_aCons, r_aNil, r_eAnd, r_eOr, r_eNotT, r_eIf, r_eNeg, r_eChain, r_sNil, r_sDrop, r_sRet, r_sSet, r_sAsg, r_sPar, r_nm, r_tp, r_sets, r_sets0, List.getElem?_cons_zero, List.getElem?_cons_succ, List.set_cons_zero, List.set_cons_succ, List.length_cons, List.length_nil, List.map_cons, List.map_nil, List.cons_append, List.nil_append, Nat.zero_add, Nat.reduceAdd, Nat.sub_self, Nat.reduceSub, Nat.add_zero, List.reduceReplicate, List.replicate_zero, List.append_nil, if_true, if_false, Bool.false_eq_true, Bool.not_true, Bool.not_false, Bool.true_and, Bool.and_true, Bool.false_and, Bool.and_false, Bool.or_true, Bool.true_or, Bool.false_or, Bool.or_false, reduceIte, r_fnF, r_sealed, r_start, t_tup0, t_tup1, t_tup2, t_tup3, t_tup4, t_lst0, t_lst1, t_lst2, t_lst3, t_lst4, t_lst5, t_lst6, t_lst7, t_lst8, t_lst9, t_lst10, r_mkV, r_mkR, r_isN, r_non0, r_non1, r_non2, r_non3, r_non4, r_non5, r_non6, isi_int, isi_intb, isi_tup, isi_str, isi_vl, isi_ints, isi_tups, r_cmp2i, r_cmp2t, r_cmpI, r_eqv_int, r_eqv_str, r_add, r_sub, r_arith, r_ix_tup, r_ix_vl, r_len_tup, r_len_vl, r_cInt, r_cMin, r_cMax, r_lof_vl, r_lof_tup, r_tof_vl, r_tof_tup, r_truD_vl, r_truD_tup, r_truD_int, r_truD_non, r_oSome, r_oNone, r_eSl, r_sl_vl, r_sl_tup, r_iAny, r_eMethL, r_isRef_vl, ix20, ix21, nr_int, nr_bl, nr_non, nr_str, nr_tup, nr_vl, nrs_nil, nrs_cons, shut_same, pick_nil, pick_cons, decide_true, decide_false, i0, i1, i2, i3, i4, i5, i6, i7, i8, i9, i10, i11, i12, i13, i14, i15, i16, i17, i18, i19, i20, i21, i22, i23]
    rw [add_vl (by simp)]
    rfl)]
  exact shut_same rfl
theorem flags : ∀ i : Fin 24, (nm24.map fun m => supOf kkSUP (nm24[i]) m) = (List.range 24).map fun p => p == i.val := by decide +kernel
theorem flags0 : (nm24.map fun m => supOf kkSUP "BoundError" m) = List.replicate 24 false := by decide +kernel
theorem bnds : ∀ m ∈ nm24, supOf kkSUP m "BoundError" = true := by decide +kernel
theorem toP_bls : ∀ {bs : List Bool} {n : Nat}, mapO (toP (n + 1) S) (bs.map D.bl) = some (bs.map PyData.bool)
  | [], n => rfl
  | b :: bs, n => by
    rw [List.map_cons]
    unfold mapO
    rw [show toP (n + 1) S (.bl b) = some (.bool b) from rfl, toP_bls]
    rfl
theorem eqv_bls : ∀ bs : List Bool, PyData.eqvAll (bs.map PyData.bool) (bs.map PyData.bool) = true
  | [] => by simp [PyData.eqvAll]
  | b :: bs => by
    rw [List.map_cons]
    unfold PyData.eqvAll
    rw [eqv_bls bs]
    simp [PyData.eqv]
theorem same_bls {bs : List Bool} (h : SeqAt.shaped (.list (bs.map PyData.bool)) = true) : gEqv true (.vl (bs.map D.bl)) (.vl (bs.map D.bl)) S = some (.bl false, S) := by
  show gEqd true _ _ _ = _
  unfold gEqd
  have e : toP 60 S (.vl (bs.map D.bl)) = some (.list (bs.map PyData.bool)) := by
    unfold toP
    rw [toP_bls]
  rw [e]
  dsimp only
  rw [if_pos (by rw [h]; rfl)]
  simp [PyData.eqv, eqv_bls]
theorem shp : ∀ i : Fin 24, SeqAt.shaped (.list (((List.range 24).map fun p => p == i.val).map PyData.bool)) = true := by decide +kernel
theorem places_ok (hf : 10000 ≤ fu) {i : Nat} {a b c d : Option D} : eComp false fu [4] (iRange1 (aCons (eC (.int 24)) aNil)) (.nm 4) tYesF (eBin (gEqv false) (eVar 4) (eVar 2)) [a, b, some (.int i), c, d] S
    = some (.vl (((List.range 24).map fun p => p == i).map D.bl), S) := by
  rw [comp_all (xs := List.range 24) (enc := fun p => .int (p : Nat)) (fun p => .bl (p == i)) (S1 := S) (by rfl) (by simp; omega) (by simp) (fun p hp S' => ⟨[a, b, some (.int i), c, some (.int p)], rfl, by
    simp only [r_sCons, r_sIf, r_tAnd, r_tOr, r_tNot, r_truB, r_truF, r_truD_bl, r_eBin, r_eVar, r_eC, r_eCall, r_eCallK, r_aCons, r_aNil, r_eAnd, r_eOr, r_eNotT, r_eIf, r_eNeg, r_eChain, r_sNil, r_sDrop, r_sRet, r_sSet, r_sAsg, r_sPar, r_nm, r_tp, r_sets, r_sets0, List.getElem?_cons_zero, List.getElem?_cons_succ, List.set_cons_zero, List.set_cons_succ, List.length_cons, List.length_nil, List.map_cons, List.map_nil, List.cons_append, List.nil_append, Nat.zero_add, Nat.reduceAdd, Nat.sub_self, Nat.reduceSub, Nat.add_zero, List.reduceReplicate, List.replicate_zero, List.append_nil, if_true, if_false, Bool.false_eq_true, Bool.not_true, Bool.not_false, Bool.true_and, Bool.and_true, Bool.false_and, Bool.and_false, Bool.or_true, Bool.true_or, Bool.false_or, Bool.or_false, reduceIte, r_fnF, r_sealed, r_start, t_tup0, t_tup1, t_tup2, t_tup3, t_tup4, t_lst0, t_lst1, t_lst2, t_lst3, t_lst4, t_lst5, t_lst6, t_lst7, t_lst8, t_lst9, t_lst10, r_mkV, r_mkR, r_isN, r_non0, r_non1, r_non2, r_non3, r_non4, r_non5, r_non6, isi_int, isi_intb, isi_tup, isi_str, isi_vl, isi_ints, isi_tups, r_cmp2i, r_cmp2t, r_cmpI, r_eqv_int, r_eqv_str, r_add, r_sub, r_arith, r_ix_tup, r_ix_vl, r_len_tup, r_len_vl, r_cInt, r_cMin, r_cMax, r_lof_vl, r_lof_tup, r_tof_vl, r_tof_tup, r_truD_vl, r_truD_tup, r_truD_int, r_truD_non, r_oSome, r_oNone, r_eSl, r_sl_vl, r_sl_tup, r_iAny, r_eMethL, r_isRef_vl, ix20, ix21, nr_int, nr_bl, nr_non, nr_str, nr_tup, nr_vl, nrs_nil, nrs_cons, shut_same, pick_nil, pick_cons, decide_true, decide_false]
    congr 3
    rw [Bool.eq_iff_iff]
    simp
    omega⟩) (fun p hp => rfl)]
  rw [List.map_map]
  rfl
structure VOk (v : D) : Prop where
  nr : noRef v = true
  nf : notF v = true
  eq : ∀ S : Sto, gEqW v v S = some (.bl true, S)
  rp : ∃ t, ∀ S : Sto, cReprW [v] S = some (.str t, S)
noncomputable def rwb (fu : Nat) : SF := (sCons (sIf (tOrF (tNotF (truF (eCall (cIsX kkTG kkTV kkTN) (aCons (eVar 3) (aCons (eC (.gl "BoundError")) aNil))))) (tNotF (truF (eCall (cIsX kkTG kkTV kkTN) (aCons (eVar 3) (aCons (eC (.ty "ValueError")) aNil)))))) (sCons (sRet (eC (.bl false))) sNil) sNil) (sCons (sIf (truB (eBin (gEqv true) (eCall (c__law_kinds fu) (aCons (eVar 3) aNil)) (eComp false fu [4] (iRange1 (aCons (eC (.int 24)) aNil)) (.nm 4) tYesF (eBin (gEqv false) (eVar 4) (eVar 2))))) (sCons (sRet (eC (.bl false))) sNil) sNil) (sCons (sIf (tOrF (tNotF (truB (eBin gEqW (eValT kkERR (eVar 3)) (eVar 1)))) (truB (eBin (gEqv true) (eCall cReprW (aCons (eValT kkERR (eVar 3)) aNil)) (eCall cReprW (aCons (eVar 1) aNil))))) (sCons (sRet (eC (.bl false))) sNil) sNil) sNil)))
noncomputable def rwf (fu : Nat) : SF := sFor fu (.tp [2, 3]) (iEnumF (aCons (eVar 0) aNil)) (rwb fu)
noncomputable def rwr (fu : Nat) : SF := (sRet (eBin (gEqv false) (eCall cLen (aCons (eVar 0) aNil)) (eC (.int 22))))
theorem row_is (fu : Nat) : b__law_row_right fu = sCons (rwf fu) (sCons (rwr fu) sNil) := rfl

theorem enum_exc {v : D} {i : Nat} {x : D} (h : (enumD (nm22.map fun n => D.exc n v))[i]? = some x) : ∃ hi : i < 22, x = .tup [.int (i : Nat), .exc (nm22[i]'hi) v] := by
  unfold enumD at h
  rw [List.getElem?_map, List.getElem?_zipIdx, List.getElem?_map] at h
  have hi : i < 22 := by
    rcases Nat.lt_or_ge i 22 with q | q
    · exact q
    · rw [List.getElem?_eq_none (by exact q)] at h
      cases h
  refine ⟨hi, ?_⟩
  rw [List.getElem?_eq_getElem (by exact hi)] at h
  simp at h
  exact h.symm
theorem nm_same {i : Nat} (h : i < 22) : nm22[i]'h = nm24[i]'(by exact Nat.lt_trans h (by decide)) := by
  have : ∀ i : Fin 22, nm22[i]'i.2 = nm24[i]'(Nat.lt_trans i.2 (by decide)) := by decide +kernel
  exact this ⟨i, h⟩
theorem row4_ok (hf : 10000 ≤ fu) {v : D} (h : VOk v) : c__law_row_right fu [dMade v, v] S = some (.bl true, S) := by
  obtain ⟨t, ht⟩ := h.rp
  unfold c__law_row_right sealed u__law_row_right
  rw [fn_eq (np := 2) rfl (show b__law_row_right fu [some (dMade v), some v, none, none, none] S = some (.rt (.bl true), S) from by
    rw [row_is]
    obtain ⟨e', S', hl, x, y, rfl, rfl⟩ := forL_fix (b := rwb fu) (t := .tp [2, 3]) (ds := enumD (nm22.map fun n => D.exc n v))
      (fun i env S' => ∃ x y, env = [some (dMade v), some v, x, y, none] ∧ S' = S) fu 0 [some (dMade v), some v, none, none, none] S ⟨none, none, rfl, rfl⟩ (Nat.zero_le _) (by simp [enumD, nm22]; omega) (by
        rintro i d env S2 hd ⟨x, y, rfl, rfl⟩
        obtain ⟨hi, rfl⟩ := enum_exc hd
        refine ⟨[some (dMade v), some v, some (.int i), some (.exc (nm22[i]'hi) v), none], rfl, [some (dMade v), some v, some (.int i), some (.exc (nm22[i]'hi) v), none], S2, ?_, some (.int i), some (.exc (nm22[i]'hi) v), rfl, rfl⟩
        have hm : nm22[i]'hi ∈ nm22 := List.getElem_mem _
        have hn := nm22_in _ hm
        have hb : supOf kkSUP (nm22[i]'hi) "BoundError" = true := by rw [nm_same hi]; exact bnds _ (List.getElem_mem _)
        have hfl : (nm24.map fun m => D.bl (supOf kkSUP (nm22[i]'hi) m)) = ((List.range 24).map fun p => p == i).map D.bl := by
          rw [nm_same hi, ← flags ⟨i, Nat.lt_trans hi (by decide)⟩, List.map_map]
          rfl
        have hE : kkERR.contains (nm22[i]'hi) = true := by
          have : ∀ m ∈ nm22, kkERR.contains m = true := by decide +kernel
          exact this _ hm
        generalize nm22[i]'hi = n at *
        have e1 : ∀ S : Sto, cIsX kkTG kkTV kkTN [.exc n v, .gl "BoundError"] S = some (.bl true, S) := fun S => by rw [isx hn bound_in, hb]
        have e2 : ∀ S : Sto, cIsX kkTG kkTV kkTN [.exc n v, .ty "ValueError"] S = some (.bl true, S) := fun S => isv hn
        have e3 : ∀ S : Sto, c__law_kinds fu [.exc n v] S = some (.vl (((List.range 24).map fun p => p == i).map D.bl), S) := fun S => by rw [kinds_ok hn, hfl]
        have e4 : ∀ S : Sto, eValT kkERR (eVar 3) [some (dMade v), some v, some (.int i), some (.exc n v), none] S = some (v, S) := fun S => by
          show (if (kkERR.contains n && notF v) = true then some (v, S) else none) = _
          rw [hE, h.nf]
          rfl
        have e5 : ∀ S : Sto, gEqv true (.str t) (.str t) S = some (.bl false, S) := fun S => by simp
        generalize dMade v = A at *
        unfold rwb
        have e6 : ∀ S : Sto, gEqv true (.vl (((List.range 24).map fun p => p == i).map D.bl)) (.vl (((List.range 24).map fun p => p == i).map D.bl)) S = some (.bl false, S) := fun S => same_bls (shp ⟨i, Nat.lt_trans hi (by decide)⟩)
        have e7 : ∀ S : Sto, eComp false fu [4] (iRange1 (aCons (eC (.int 24)) aNil)) (.nm 4) tYesF (eBin (gEqv false) (eVar 4) (eVar 2)) [some A, some v, some (.int i), some (.exc n v), none] S = some (.vl (((List.range 24).map fun p => p == i).map D.bl), S) := fun S => places_ok hf
        generalize ((List.range 24).map fun p => p == i).map D.bl = B at *
        simp only [r_sCons, r_sIf, r_tAnd, r_tOr, r_tNot, r_truB, r_truF, r_truD_bl, r_eBin, r_eVar, r_eC, r_eCall, r_eCallK, r_aCons, r_aNil, r_eAnd, r_eOr, r_eNotT, r_eIf, r_eNeg, r_eChain, r_sNil, r_sDrop, r_sRet, r_sSet, r_sAsg, r_sPar, r_nm, r_tp, r_sets, r_sets0, List.getElem?_cons_zero, List.getElem?_cons_succ, List.set_cons_zero, List.set_cons_succ, List.length_cons, List.length_nil, List.map_cons, List.map_nil, List.cons_append, List.nil_append, Nat.zero_add, Nat.reduceAdd, Nat.sub_self, Nat.reduceSub, Nat.add_zero, List.reduceReplicate, List.replicate_zero, List.append_nil, if_true, if_false, Bool.false_eq_true, Bool.not_true, Bool.not_false, Bool.true_and, Bool.and_true, Bool.false_and, Bool.and_false, Bool.or_true, Bool.true_or, Bool.false_or, Bool.or_false, reduceIte, r_fnF, r_sealed, r_start, t_tup0, t_tup1, t_tup2, t_tup3, t_tup4, t_lst0, t_lst1, t_lst2, t_lst3, t_lst4, t_lst5, t_lst6, t_lst7, t_lst8, t_lst9, t_lst10, r_mkV, r_mkR, r_isN, r_non0, r_non1, r_non2, r_non3, r_non4, r_non5, r_non6, isi_int, isi_intb, isi_tup, isi_str, isi_vl, isi_ints, isi_tups, r_cmp2i, r_cmp2t, r_cmpI, r_eqv_int, r_eqv_str, r_add, r_sub, r_arith, r_ix_tup, r_ix_vl, r_len_tup, r_len_vl, r_cInt, r_cMin, r_cMax, r_lof_vl, r_lof_tup, r_tof_vl, r_tof_tup, r_truD_vl, r_truD_tup, r_truD_int, r_truD_non, r_oSome, r_oNone, r_eSl, r_sl_vl, r_sl_tup, r_iAny, r_eMethL, r_isRef_vl, ix20, ix21, nr_int, nr_bl, nr_non, nr_str, nr_tup, nr_vl, nrs_nil, nrs_cons, shut_same, pick_nil, pick_cons, decide_true, decide_false, e1, e2, e3, e7, e6, e4, h.eq, ht, e5])
    rw [cons_eq (f := rwf fu) (for_eq (src := .fix (enumD (nm22.map fun n => D.exc n v))) (by rfl) hl)]
    unfold rwr
    rfl)]
  exact shut_same rfl
end
end Sp
namespace Sp
open PySem PySem.Spec PyProof.Rows L2 Lv Com
section
variable {fu : Nat} {S : Sto}
end
section
variable {m : Int} {a b : End} {r q : Rg}
theorem BdO.mono {k : Int} (h : BdO m a) (hk : m ≤ k) : BdO k a := fun i e => by have := h i e; omega
theorem BdR.mono {k : Int} (h : BdR m r) (hk : m ≤ k) : BdR k r := ⟨h.1.mono hk, h.2.mono hk⟩
variable {zs : List Str} {rs us : List Rg}
end
end Sp
namespace Sp
open PySem PySem.Spec PyProof.Rows L2 Lv
end Sp
namespace Sp
open PySem PySem.Spec PyProof.Rows L2 Lv
def mk : Str := "marked"
def LL (P : D → List Nat → Prop) : List D → List Nat → Prop
  | [], α => α = []
  | d :: ds, α => ∃ β γ, P d β ∧ LL P ds γ ∧ α = β ++ γ ∧ ∀ i ∈ β, i ∉ γ
def Tr : Nat → Sto → D → List Nat → Prop
  | 0, _, _, _ => False
  | k + 1, S, d, α => match d with
    | .ref n => ∃ ds β, S[n]? = some (.lst ds) ∧ LL (Tr k S) ds β ∧ n ∉ β ∧ α = n :: β ∧ ds.length ≤ 1000 ∧ ds.getLast? ≠ some (.str mk)
    | .tup ds => LL (Tr k S) ds α ∧ ds.length ≤ 1000
    | .str x => α = [] ∧ (PyData.str x).canLay0 = true
    | .non => α = []
    | .bl _ => α = []
    | .int _ => α = []
    | _ => False
theorem LL.imp {P Q : D → List Nat → Prop} : ∀ {ds : List D} {α : List Nat}, LL P ds α → (∀ d ∈ ds, ∀ β, (∀ i ∈ β, i ∈ α) → P d β → Q d β) → LL Q ds α
  | [], α, h, _ => h
  | d :: ds, α, h, hi => by
    obtain ⟨β, γ, h1, h2, rfl, h4⟩ := h
    exact ⟨β, γ, hi d List.mem_cons_self β (fun i hi => List.mem_append_left _ hi) h1, h2.imp (fun e he δ hd => hi e (List.mem_cons_of_mem _ he) δ fun i hm => List.mem_append_right _ (hd i hm)), rfl, h4⟩
theorem Tr.out {S S' : Sto} : ∀ {k : Nat} {d : D} {α : List Nat}, Tr k S d α → (∀ i ∈ α, S'[i]? = S[i]?) → Tr k S' d α
  | 0, d, α, h, _ => h.elim
  | k + 1, d, α, h, ho => by
    unfold Tr at h ⊢
    cases d with
    | ref n =>
      obtain ⟨ds, β, h1, h2, h3, rfl, h5, h6⟩ := h
      refine ⟨ds, β, by rw [ho n List.mem_cons_self]; exact h1, h2.imp (fun e _ γ hg he => he.out fun i hi => ho i (List.mem_cons_of_mem _ (hg i hi))), h3, rfl, h5, h6⟩
    | tup ds => exact ⟨h.1.imp fun e _ γ hg he => he.out fun i hi => ho i (hg i hi), h.2⟩
    | _ => exact h
theorem LL.mem {P : D → List Nat → Prop} : ∀ {ds : List D} {α : List Nat}, LL P ds α → ∀ d ∈ ds, ∃ β, P d β ∧ ∀ i ∈ β, i ∈ α
  | [], α, h, d, hd => by cases hd
  | e :: ds, α, h, d, hd => by
    obtain ⟨β, γ, h1, h2, rfl, h4⟩ := h
    rcases List.mem_cons.mp hd with rfl | hd
    · exact ⟨β, h1, fun i hi => List.mem_append_left _ hi⟩
    · obtain ⟨δ, k1, k2⟩ := h2.mem d hd
      exact ⟨δ, k1, fun i hi => List.mem_append_right _ (k2 i hi)⟩
theorem belows_of {n : Nat} : ∀ {ds : List D}, (∀ d ∈ ds, below n d = true) → belows n ds = true
  | [], _ => rfl
  | d :: ds, h => by
    show (below n d && belows n ds) = true
    rw [h d List.mem_cons_self, belows_of fun e he => h e (List.mem_cons_of_mem _ he)]
    rfl
theorem Tr.bel {S : Sto} : ∀ {k : Nat} {d : D} {α : List Nat}, Tr k S d α → below S.length d = true
  | 0, d, α, h => h.elim
  | k + 1, d, α, h => by
    unfold Tr at h
    cases d with
    | ref n =>
      obtain ⟨ds, β, h1, _⟩ := h
      exact decide_eq_true (List.getElem?_eq_some_iff.mp h1).1
    | tup ds =>
      refine belows_of (ds := ds) fun e he => ?_
      obtain ⟨β, h1, _⟩ := h.1.mem e he
      exact h1.bel
    | kl ds => exact h.elim
    | vl ds => exact h.elim
    | dv ks ds => exact h.elim
    | gl n => exact h.elim
    | exc n d => exact h.elim
    | lam a b c d e f => exact h.elim
    | _ => rfl
theorem mapO_ex {α β : Type} {f : α → Option β} {p : β → Prop} : ∀ {xs : List α}, (∀ x ∈ xs, ∃ y, f x = some y ∧ p y) → ∃ ys, mapO f xs = some ys ∧ (∀ y ∈ ys, p y) ∧ ys.length = xs.length
  | [], _ => ⟨[], rfl, fun y hy => (by cases hy), rfl⟩
  | x :: xs, h => by
    obtain ⟨y, h1, h2⟩ := h x List.mem_cons_self
    obtain ⟨ys, k1, k2, k3⟩ := mapO_ex fun z hz => h z (List.mem_cons_of_mem _ hz)
    refine ⟨y :: ys, by simp only [mapO, h1, k1], fun z hz => ?_, by simp [k3]⟩
    rcases List.mem_cons.mp hz with rfl | hz
    · exact h2
    · exact k2 z hz
theorem Tr.dat {S : Sto} : ∀ {k m : Nat} {d : D} {α : List Nat}, Tr k S d α → k ≤ m → ∃ p, toP m S d = some p ∧ p.canLay0 = true ∧ p.depth ≤ k
  | 0, m, d, α, h, _ => h.elim
  | k + 1, 0, d, α, h, hm => by omega
  | k + 1, m + 1, d, α, h, hm => by
    have go : ∀ {ds : List D} {β : List Nat}, LL (Tr k S) ds β → ∃ ps, mapO (toP m S) ds = some ps ∧ (∀ p ∈ ps, p.canLay0 = true ∧ p.depth ≤ k) ∧ ps.length = ds.length := fun hl => mapO_ex fun e he => by
      obtain ⟨γ, h1, _⟩ := hl.mem e he
      obtain ⟨p, k1, k2, k3⟩ := h1.dat (m := m) (by omega)
      exact ⟨p, k1, k2, k3⟩
    unfold Tr at h
    cases d with
    | ref n =>
      obtain ⟨ds, β, h1, h2, _⟩ := h
      obtain ⟨ps, k1, k2, k3⟩ := go h2
      refine ⟨.list ps, ?_, layAll fun p hp => (k2 p hp).1, Nat.succ_le_succ (depAll fun p hp => (k2 p hp).2)⟩
      unfold toP
      rw [h1]
      dsimp only
      (try rw [show (Cell.lst ds).items = ds from rfl]); rw [k1]
    | tup ds =>
      obtain ⟨ps, k1, k2, k3⟩ := go h.1
      refine ⟨.tuple ps, ?_, layAll fun p hp => (k2 p hp).1, Nat.succ_le_succ (depAll fun p hp => (k2 p hp).2)⟩
      unfold toP
      rw [k1]
    | kl ds => exact h.elim
    | vl ds => exact h.elim
    | ty s => exact h.elim
    | dv ks ds => exact h.elim
    | gl n => exact h.elim
    | exc n d => exact h.elim
    | lam a b c d e f => exact h.elim
    | str x => exact ⟨.str x, rfl, h.2, Nat.zero_le _⟩
    | non => exact ⟨.none, rfl, rfl, Nat.zero_le _⟩
    | bl b => exact ⟨.bool b, rfl, rfl, Nat.zero_le _⟩
    | int i => exact ⟨.int i, rfl, rfl, Nat.zero_le _⟩
theorem LL.inv {P : D → List Nat → Prop} : ∀ {ds : List D} {α : List Nat}, LL P ds α → ∀ i ∈ α, ∃ d ∈ ds, ∃ β, P d β ∧ i ∈ β
  | [], α, h, i, hi => by cases h; cases hi
  | e :: ds, α, h, i, hi => by
    obtain ⟨β, γ, h1, h2, rfl, h4⟩ := h
    rcases List.mem_append.mp hi with hi | hi
    · exact ⟨e, List.mem_cons_self, β, h1, hi⟩
    · obtain ⟨d, k1, k2⟩ := h2.inv i hi
      exact ⟨d, List.mem_cons_of_mem _ k1, k2⟩
theorem Tr.cells {S : Sto} : ∀ {k : Nat} {d : D} {α : List Nat}, Tr k S d α → ∀ i ∈ α, ∃ ds, S[i]? = some (.lst ds) ∧ belows S.length ds = true
  | 0, d, α, h, i, hi => h.elim
  | k + 1, d, α, h, i, hi => by
    unfold Tr at h
    cases d with
    | ref n =>
      obtain ⟨ds, β, h1, h2, h3, rfl, _⟩ := h
      rcases List.mem_cons.mp hi with rfl | hi
      · exact ⟨ds, h1, belows_of fun e he => by
          obtain ⟨γ, k1, _⟩ := h2.mem e he
          exact k1.bel⟩
      · obtain ⟨e, he, γ, k1, k2⟩ := h2.inv i hi
        exact k1.cells i k2
    | tup ds =>
      obtain ⟨e, he, γ, k1, k2⟩ := h.1.inv i hi
      exact k1.cells i k2
    | kl ds => exact h.elim
    | vl ds => exact h.elim
    | ty s => exact h.elim
    | dv ks ds => exact h.elim
    | gl n => exact h.elim
    | exc n d => exact h.elim
    | lam a b c d e f => exact h.elim
    | str x => rw [h.1] at hi; cases hi
    | non => cases h; cases hi
    | bl b => cases h; cases hi
    | int i => cases h; cases hi
theorem Tr.lt {S : Sto} {k : Nat} {d : D} {α : List Nat} (h : Tr k S d α) : ∀ i ∈ α, i < S.length := fun i hi => by
  obtain ⟨ds, h1, _⟩ := h.cells i hi
  exact (List.getElem?_eq_some_iff.mp h1).1
structure Fra (S S' : Sto) (α : List Nat) : Prop where
  len : S'.length = S.length
  out : ∀ i, i ∉ α → S'[i]? = S[i]?
  inn : ∀ i ∈ α, ∃ ds, S[i]? = some (.lst ds) ∧ S'[i]? = some (.lst (ds ++ [.str mk]))
theorem belows_app {n : Nat} : ∀ {a b : List D}, belows n (a ++ b) = (belows n a && belows n b)
  | [], b => by rw [List.nil_append]; rfl
  | d :: a, b => by
    show (below n d && belows n (a ++ b)) = ((below n d && belows n a) && belows n b)
    rw [belows_app, Bool.and_assoc]
theorem Fra.old {S S' : Sto} {α : List Nat} (h : Fra S S' α) (hc : ∀ i ∈ α, ∃ ds, S[i]? = some (.lst ds) ∧ belows S.length ds = true) : OldB S S' := by
  refine ⟨by rw [h.len]; exact Nat.le_refl _, fun i hi => ?_⟩
  by_cases hm : i ∈ α
  · obtain ⟨ds, h1, h2⟩ := h.inn i hm
    obtain ⟨es, h3, h4⟩ := hc i hm
    rw [h1] at h3
    cases h3
    exact .inr ⟨_, h2, by show belows S.length (ds ++ [D.str Sp.mk]) = true; rw [belows_app, h4]; rfl⟩
  · exact .inl (h.out i hm)
section
variable {fu : Nat}
end
end Sp
namespace Sp
open PySem PySem.Spec PyProof.Rows L2 Lv
section
variable {fu : Nat} {S : Sto}
end
end Sp
namespace Sp
open PySem PySem.Spec PyProof.Rows L2 Lv Com
abbrev Tb := List (Option (List Rg))
def dT (T : Tb) : D := .vl (T.map dORow)
@[simp] theorem nrs_dT {T : Tb} : noRefs (T.map dORow) = true := nrs_map fun _ _ => by simp
@[simp] theorem nr_dT {T : Tb} : noRef (dT T) = true := by simp [dT]
section
variable {fu : Nat} {S : Sto}
end
end Sp
namespace Sp
open PySem PySem.Spec PyProof.Rows L2 Lv Com
def okTR (n : Nat) : Option (List Rg) → Bool
  | none => true
  | some rs => decide (rs.length = n) && rs.all okR
def okT (p : Prg) (T : Tb) : Bool := decide ((T.length : Int) = p.many) && T.all (okTR p.names.length)
section
variable {fu : Nat} {S : Sto} {p : Prg} {T : Tb}
end
end Sp
namespace Sp
open PySem PySem.Spec PyProof.Rows L2 Lv Com
section
variable {fu : Nat} {S : Sto} {p : Prg} {T : Tb}
end
end Sp
namespace Sp
open PySem PySem.Spec PyProof.Rows L2 Lv Com
structure OkPT2 (p : Prg) (T : Tb) : Prop where
  s : SmP p
  ok : okP p = true
  t : okT p T = true
  m : p.many ≤ 1000
section
variable {fu : Nat} {S : Sto} {p : Prg} {T : Tb}
end
end Sp
namespace Sp
open PySem PySem.Spec PyProof.Rows L2 Lv Com
section
variable {zs : List Str} {rs : List Rg}
end
end Sp
namespace Sp
open PySem PySem.Spec PyProof.Rows L2 Lv Com
section
variable {fu : Nat} {S : Sto}
end
end Sp
namespace Sp
open PySem PySem.Spec PyProof.Rows L2 Lv Com
abbrev Tp := List (Option (List Pr))
def dTP (U : Tp) : D := .vl (U.map dOP)
@[simp] theorem nr_dTP {U : Tp} : noRef (dTP U) = true := by unfold dTP; rw [nr_vl]; exact nrs_map fun _ _ => nr_dOP
section
variable {fu : Nat} {S : Sto}
end
end Sp
namespace Sp
open PySem PySem.Spec PyProof.Rows L2 Lv Com
section
variable {fu : Nat} {S : Sto} {p : Prg} {U : Tp}
end
end Sp
namespace Sp
open PySem PySem.Spec PyProof.Rows L2 Lv Com
section
variable {p : Prg} {T : Tb} {m : Int}
end
end Sp
namespace Sp
open PySem PySem.Spec PyProof.Rows L2 Lv
theorem mapO_imp {α β : Type} {f g : α → Option β} : ∀ {xs : List α} {ys : List β}, mapO f xs = some ys → (∀ x ∈ xs, ∀ y, f x = some y → g x = some y) → mapO g xs = some ys
  | [], ys, h, _ => by cases h; rfl
  | x :: xs, zs, h, i => by
    obtain ⟨y, ys, h1, h2, rfl⟩ := mapO_cons h
    unfold mapO
    rw [i x List.mem_cons_self y h1]
    dsimp only
    rw [mapO_imp h2 fun z hz => i z (List.mem_cons_of_mem _ hz)]
theorem toP_grow {S S' : Sto} (hs : ∀ (i : Nat) (c : Cell), S[i]? = some c → S'[i]? = some c) : ∀ {n m : Nat} {d : D} {p : PyData}, toP n S d = some p → n ≤ m → toP m S' d = some p
  | 0, m, d, p, h, _ => by cases h
  | n + 1, 0, d, p, h, hm => by omega
  | n + 1, m + 1, d, p, h, hm => by
    have ih : ∀ {ds : List D} {ps : List PyData}, mapO (toP n S) ds = some ps → mapO (toP m S') ds = some ps := fun h => mapO_imp h fun x _ y hy => toP_grow hs hy (by omega)
    cases d with
    | ty s => cases h
    | dv ks ds => cases h
    | gl n => cases h
    | exc n d => cases h
    | lam f c q σ ix ds => cases h
    | kl ds => cases h
    | vl ds =>
      unfold toP at h ⊢
      split at h
      · rename_i ps hp
        cases h
        rw [ih hp]
      · cases h
    | non => exact h
    | bl b => exact h
    | int i => exact h
    | str x => exact h
    | tup ds =>
      unfold toP at h ⊢
      split at h
      · rename_i ps hp
        cases h
        rw [ih hp]
      · cases h
    | ref k =>
      unfold toP at h ⊢
      split at h
      · cases h
      · rename_i c hc
        rw [hs k c hc]
        dsimp only
        split at h
        · cases h
        · rename_i ds hd
          split at h
          · rename_i ps hp
            cases h
            rw [ih hp]
          · cases h
theorem app_keep {S T : Sto} : ∀ (i : Nat) (c : Cell), S[i]? = some c → (S ++ T)[i]? = some c := fun i c h => by rw [List.getElem?_append_left (List.getElem?_eq_some_iff.mp h).1]; exact h
theorem Tr.up {S : Sto} : ∀ {k m : Nat} {d : D} {α : List Nat}, Tr k S d α → k ≤ m → Tr m S d α
  | 0, m, d, α, h, _ => h.elim
  | k + 1, 0, d, α, h, hm => by omega
  | k + 1, m + 1, d, α, h, hm => by
    unfold Tr at h ⊢
    cases d with
    | ref n =>
      obtain ⟨ds, β, h1, h2, h3, h4⟩ := h
      exact ⟨ds, β, h1, h2.imp (fun e _ γ _ he => he.up (by omega)), h3, h4⟩
    | tup ds => exact ⟨h.1.imp fun e _ γ _ he => he.up (by omega), h.2⟩
    | _ => exact h
theorem Tr.grow {S T : Sto} {k : Nat} {d : D} {α : List Nat} (h : Tr k S d α) : Tr k (S ++ T) d α := h.out fun i hi => List.getElem?_append_left (h.lt i hi)
def Told (k n0 : Nat) (S : Sto) (d : D) (p : PyData) : Prop := ∃ α, Tr k S d α ∧ toP k S d = some p ∧ ∀ i ∈ α, n0 ≤ i
def Tolds (k n0 : Nat) (S : Sto) (ds : List D) (ps : List PyData) : Prop := ∃ α, LL (Tr k S) ds α ∧ mapO (toP k S) ds = some ps ∧ ∀ i ∈ α, n0 ≤ i
theorem Told.up {k m n0 : Nat} {S : Sto} {d : D} {p : PyData} (h : Told k n0 S d p) (hk : k ≤ m) : Told m n0 S d p := by
  obtain ⟨α, h1, h2, h3⟩ := h
  exact ⟨α, h1.up hk, toP_grow (fun _ _ e => e) h2 hk, h3⟩
theorem Told.low {k n0 n1 : Nat} {S : Sto} {d : D} {p : PyData} (h : Told k n0 S d p) (hn : n1 ≤ n0) : Told k n1 S d p := by
  obtain ⟨α, h1, h2, h3⟩ := h
  exact ⟨α, h1, h2, fun i hi => Nat.le_trans hn (h3 i hi)⟩
theorem Told.grow {k n0 : Nat} {S T : Sto} {d : D} {p : PyData} (h : Told k n0 S d p) : Told k n0 (S ++ T) d p := by
  obtain ⟨α, h1, h2, h3⟩ := h
  exact ⟨α, h1.grow, toP_grow app_keep h2 (Nat.le_refl _), h3⟩
theorem Tolds.low {k n0 n1 : Nat} {S : Sto} {ds : List D} {ps : List PyData} (h : Tolds k n0 S ds ps) (hn : n1 ≤ n0) : Tolds k n1 S ds ps := by
  obtain ⟨α, h1, h2, h3⟩ := h
  exact ⟨α, h1, h2, fun i hi => Nat.le_trans hn (h3 i hi)⟩
theorem LL.grow {S T : Sto} {k : Nat} {ds : List D} {α : List Nat} (h : LL (Tr k S) ds α) : LL (Tr k (S ++ T)) ds α := h.imp fun _ _ _ _ he => he.grow
theorem Tolds.grow {k n0 : Nat} {S T : Sto} {ds : List D} {ps : List PyData} (h : Tolds k n0 S ds ps) : Tolds k n0 (S ++ T) ds ps := by
  obtain ⟨α, h1, h2, h3⟩ := h
  exact ⟨α, h1.grow, mapO_imp h2 fun _ _ _ hy => toP_grow app_keep hy (Nat.le_refl _), h3⟩
theorem Tolds.up {k m n0 : Nat} {S : Sto} {ds : List D} {ps : List PyData} (h : Tolds k n0 S ds ps) (hk : k ≤ m) : Tolds m n0 S ds ps := by
  obtain ⟨α, h1, h2, h3⟩ := h
  exact ⟨α, h1.imp fun _ _ _ _ he => he.up hk, mapO_imp h2 fun _ _ _ hy => toP_grow (fun _ _ e => e) hy hk, h3⟩
theorem LL.lt {S : Sto} {k : Nat} {ds : List D} {α : List Nat} (h : LL (Tr k S) ds α) : ∀ i ∈ α, i < S.length := fun i hi => by
  obtain ⟨d, _, β, h1, h2⟩ := h.inv i hi
  exact h1.lt i h2
theorem Tolds.nil {k n0 : Nat} {S : Sto} : Tolds k n0 S [] [] := ⟨[], rfl, rfl, fun i hi => by cases hi⟩
theorem Tolds.cons {k n0 : Nat} {S T : Sto} {d : D} {p : PyData} {ds : List D} {ps : List PyData} (h : Told k n0 S d p) (hs : Tolds k S.length (S ++ T) ds ps) (hn : n0 ≤ S.length) : Tolds k n0 (S ++ T) (d :: ds) (p :: ps) := by
  obtain ⟨α, h1, h2, h3⟩ := h
  obtain ⟨β, k1, k2, k3⟩ := hs
  refine ⟨α ++ β, ⟨α, β, h1.grow, k1, rfl, fun i hi hb => ?_⟩, ?_, fun i hi => ?_⟩
  · have := h1.lt i hi
    have := k3 i hb
    omega
  · unfold mapO
    rw [toP_grow app_keep h2 (Nat.le_refl _)]
    dsimp only
    rw [k2]
  · rcases List.mem_append.mp hi with hi | hi
    · exact h3 i hi
    · exact Nat.le_trans hn (k3 i hi)
theorem Tolds.list {k n0 : Nat} {S : Sto} {ds : List D} {ps : List PyData} (h : Tolds k n0 S ds ps) (hn : n0 ≤ S.length) (hl : ds.length ≤ 1000) (hm : ds.getLast? ≠ some (.str mk)) : Told (k + 1) n0 (S ++ [.lst ds]) (.ref S.length) (.list ps) := by
  obtain ⟨α, h1, h2, h3⟩ := h
  refine ⟨S.length :: α, ⟨ds, α, new_last, h1.grow, fun hi => Nat.lt_irrefl _ (h1.lt _ hi), rfl, hl, hm⟩, ?_, fun i hi => ?_⟩
  · unfold toP
    rw [new_last]
    dsimp only
    (try rw [show (Cell.lst ds).items = ds from rfl]); rw [mapO_imp h2 fun _ _ _ hy => toP_grow app_keep hy (Nat.le_refl _)]
  · rcases List.mem_cons.mp hi with rfl | hi
    · exact hn
    · exact h3 i hi
theorem Tolds.tup {k n0 : Nat} {S : Sto} {ds : List D} {ps : List PyData} (h : Tolds k n0 S ds ps) (hl : ds.length ≤ 1000) : Told (k + 1) n0 S (.tup ds) (.tuple ps) := by
  obtain ⟨α, h1, h2, h3⟩ := h
  refine ⟨α, ⟨h1, hl⟩, ?_, h3⟩
  unfold toP
  rw [h2]
def Flt (k : Nat) (S : Sto) (d : D) (p : PyData) : Prop := Tr k S d [] ∧ toP k S d = some p
theorem Flt.told {k n0 : Nat} {S : Sto} {d : D} {p : PyData} (h : Flt k S d p) : Told k n0 S d p := ⟨[], h.1, h.2, fun i hi => by cases hi⟩
end Sp
namespace Sp
open PySem PySem.Spec PyProof.Rows L2 Lv
theorem Tr.sub {S : Sto} : ∀ {k : Nat} {d : D} {α : List Nat}, Tr k S d α → ∀ i ∈ α, ∃ ds γ, S[i]? = some (.lst ds) ∧ LL (Tr k S) ds γ ∧ ∀ j ∈ γ, j ∈ α
  | 0, d, α, h, i, hi => h.elim
  | k + 1, d, α, h, i, hi => by
    have h0 := h
    unfold Tr at h
    have go : ∀ {ds : List D} {β : List Nat}, LL (Tr k S) ds β → i ∈ β → ∃ es γ, S[i]? = some (.lst es) ∧ LL (Tr (k + 1) S) es γ ∧ ∀ j ∈ γ, j ∈ β := fun hl hm => by
      obtain ⟨ds2, β2, hm2⟩ : ∃ e ∈ _, ∃ γ, Tr k S e γ ∧ i ∈ γ ∧ ∀ j ∈ γ, j ∈ _ := LL.inv2 hl i hm
      obtain ⟨γ, k1, k2, k3⟩ := hm2
      obtain ⟨es, δ, q1, q2, q3⟩ := k1.sub i k2
      exact ⟨es, δ, q1, q2.imp fun _ _ _ _ he => he.up (by omega), fun j hj => k3 j (q3 j hj)⟩
    cases d with
    | ref n =>
      obtain ⟨ds, β, h1, h2, h3, rfl, _⟩ := h
      rcases List.mem_cons.mp hi with rfl | hi
      · exact ⟨ds, β, h1, h2.imp fun _ _ _ _ he => he.up (by omega), fun j hj => List.mem_cons_of_mem _ hj⟩
      · obtain ⟨es, γ, q1, q2, q3⟩ := go h2 hi
        exact ⟨es, γ, q1, q2, fun j hj => List.mem_cons_of_mem _ (q3 j hj)⟩
    | tup ds => exact go h.1 hi
    | kl ds => exact h.elim
    | vl ds => exact h.elim
    | ty s => exact h.elim
    | dv ks ds => exact h.elim
    | gl n => exact h.elim
    | exc n d => exact h.elim
    | lam f c q σ ix ds => exact h.elim
    | str x => rw [h.1] at hi; cases hi
    | non => cases h; cases hi
    | bl b => cases h; cases hi
    | int i => cases h; cases hi
where
  LL.inv2 {P : D → List Nat → Prop} : ∀ {ds : List D} {α : List Nat}, LL P ds α → ∀ i ∈ α, ∃ d ∈ ds, ∃ β, P d β ∧ i ∈ β ∧ ∀ j ∈ β, j ∈ α
    | [], α, h, i, hi => by cases h; cases hi
    | e :: ds, α, h, i, hi => by
      obtain ⟨β, γ, h1, h2, rfl, h4⟩ := h
      rcases List.mem_append.mp hi with hi | hi
      · exact ⟨e, List.mem_cons_self, β, h1, hi, fun j hj => List.mem_append_left _ hj⟩
      · obtain ⟨d, k1, δ, k2, k3, k4⟩ := LL.inv2 h2 i hi
        exact ⟨d, List.mem_cons_of_mem _ k1, δ, k2, k3, fun j hj => List.mem_append_right _ (k4 j hj)⟩
end Sp
namespace Sp
open PySem PySem.Spec PyProof.Rows L2 Lv
theorem mapO_congr {α β : Type} {f g : α → Option β} : ∀ {xs : List α}, (∀ x ∈ xs, f x = g x) → mapO f xs = mapO g xs
  | [], _ => rfl
  | x :: xs, h => by
    unfold mapO
    rw [h x List.mem_cons_self, mapO_congr fun y hy => h y (List.mem_cons_of_mem _ hy)]
theorem Tr.toP_out {S S' : Sto} : ∀ {k m : Nat} {d : D} {α : List Nat}, Tr k S d α → (∀ i ∈ α, S'[i]? = S[i]?) → toP m S' d = toP m S d
  | 0, m, d, α, h, _ => h.elim
  | k + 1, 0, d, α, h, ho => rfl
  | k + 1, m + 1, d, α, h, ho => by
    have go : ∀ {ds : List D} {β : List Nat}, LL (Tr k S) ds β → (∀ i ∈ β, S'[i]? = S[i]?) → mapO (toP m S') ds = mapO (toP m S) ds := fun hl hb => mapO_congr fun e he => by
      obtain ⟨γ, k1, k2⟩ := hl.mem e he
      exact k1.toP_out fun i hi => hb i (k2 i hi)
    unfold Tr at h
    cases d with
    | ref n =>
      obtain ⟨ds, β, h1, h2, h3, rfl, _⟩ := h
      unfold toP
      rw [ho n List.mem_cons_self, h1]
      dsimp only
      (try rw [show (Cell.lst ds).items = ds from rfl]); rw [go h2 fun i hi => ho i (List.mem_cons_of_mem _ hi)]
    | tup ds =>
      unfold toP
      rw [go h.1 ho]
    | kl ds => exact h.elim
    | vl ds => exact h.elim
    | ty s => exact h.elim
    | dv ks ds => exact h.elim
    | gl n => exact h.elim
    | exc n d => exact h.elim
    | lam f c q σ ix ds => exact h.elim
    | _ => rfl
theorem Told.out {k n0 : Nat} {S S' : Sto} {d : D} {p : PyData} (h : Told k n0 S d p) (ho : ∀ i, n0 ≤ i → S'[i]? = S[i]?) : Told k n0 S' d p := by
  obtain ⟨α, h1, h2, h3⟩ := h
  have hc : ∀ i ∈ α, S'[i]? = S[i]? := fun i hi => ho i (h3 i hi)
  exact ⟨α, h1.out hc, by rw [h1.toP_out hc]; exact h2, h3⟩
theorem Tolds.out {k n0 : Nat} {S S' : Sto} {ds : List D} {ps : List PyData} (h : Tolds k n0 S ds ps) (ho : ∀ i, n0 ≤ i → S'[i]? = S[i]?) : Tolds k n0 S' ds ps := by
  obtain ⟨α, h1, h2, h3⟩ := h
  have hc : ∀ i ∈ α, S'[i]? = S[i]? := fun i hi => ho i (h3 i hi)
  refine ⟨α, h1.imp fun e _ β hb he => he.out fun i hi => hc i (hb i hi), ?_, h3⟩
  rw [← h2]
  exact mapO_congr fun e he => by
    obtain ⟨γ, k1, k2⟩ := h1.mem e he
    exact k1.toP_out fun i hi => hc i (k2 i hi)
end Sp
namespace Cw
open PySem PySem.Spec PyProof.Rows L2 Lv
end Cw
namespace Sp
open PySem PySem.Spec PyProof.Rows L2 Lv Com
section
variable {fu : Nat} {S : Sto}
structure OkPTT (p : Prg) (T U : Tb) : Prop where
  t : OkPT2 p T
  u : okT p U = true
theorem OkPTT.swap {p : Prg} {T U : Tb} (h : OkPTT p T U) : OkPTT p U T := ⟨⟨h.t.s, h.t.ok, h.u, h.t.m⟩, h.t.t⟩
theorem OkPTT.second {p : Prg} {T U : Tb} (h : OkPTT p T U) : OkPT2 p U := h.swap.t
structure OkPRR (p : Prg) (rs qs : List Rg) : Prop where
  s : SmP p
  ok : okP p = true
  r : rs.length = p.names.length
  ro : ∀ r ∈ rs, okR r = true
  q : qs.length = p.names.length
  qo : ∀ r ∈ qs, okR r = true
theorem OkPRR.swap {p : Prg} {rs qs : List Rg} (h : OkPRR p rs qs) : OkPRR p qs rs := ⟨h.s, h.ok, h.q, h.qo, h.r, h.ro⟩
theorem OkPRR.len {p : Prg} {rs qs : List Rg} (h : OkPRR p rs qs) : rs.length ≤ 1000 := by rw [h.r]; exact h.s.n
end
end Sp
namespace Sp
open PySem PySem.Spec PyProof.Rows L2 Lv Com
def Tells (k : Nat) (S : Sto) (p : PyData) (r : Option (D × Sto)) : Prop := ∃ z T, r = some (z, S ++ T) ∧ Told k S.length (S ++ T) z p
theorem Tells.up {k m : Nat} {S : Sto} {p : PyData} {r : Option (D × Sto)} (h : Tells k S p r) (hk : k ≤ m) : Tells m S p r := by
  obtain ⟨z, T, e, t⟩ := h
  exact ⟨z, T, e, t.up hk⟩
section
variable {fu : Nat} {S : Sto}
end
end Sp
namespace Sp
open PySem PySem.Spec PyProof.Rows L2 Lv Com
section
variable {fu : Nat} {S : Sto} {p : Prg} {U : Tp} {T : Tb}
end
end Sp
namespace Sp
open PySem PySem.Spec PyProof.Rows L2 Lv Com
section
variable {fu : Nat} {S : Sto} {p : Prg} {T : Tb} {m : Int}
end
end Sp
namespace Sp
open PySem PySem.Spec PyProof.Rows L2 Lv Com
section
variable {fu : Nat} {S : Sto}
end
end Sp
namespace Sp
open PySem PySem.Spec PyProof.Rows L2 Lv Com
section
variable {fu : Nat} {S : Sto}
end
end Sp
namespace Sp
open PySem PySem.Spec PyProof.Rows L2 Lv Com
structure Drawn (m : Int) (p : Prg) : Prop where
  n1 : 1 ≤ p.names.length
  n5 : p.names.length ≤ 5
  nm : ∀ z ∈ p.names, z ∈ menu
  ns : p.names.Pairwise LtS
  m1 : 1 ≤ p.many
  m9 : p.many ≤ 100
  sl : p.start.length = p.names.length
  s : ∀ r ∈ p.start, okR r = true ∧ BdR m r
  t : ∀ s ∈ p.steps, okS p.names p.many s = true ∧ BdD m s.deed
  tl : p.steps.length ≤ 30
theorem Drawn.ok {m : Int} {p : Prg} (h : Drawn m p) : okP p = true := by
  unfold okP
  simp only [Bool.and_eq_true, decide_eq_true_eq, List.all_eq_true]
  exact ⟨⟨namesB_of h.n1 h.nm h.ns, h.m1, h.sl, fun r hr => (h.s r hr).1⟩, fun s hs => (h.t s hs).1⟩
theorem Drawn.sm {m : Int} {p : Prg} (h : Drawn m p) : SmP p :=
  ⟨by have := h.n5; omega, fun z hz => (menu_nm z (h.nm z hz)).2, by have := h.sl; have := h.n5; omega, by have := h.tl; omega⟩
theorem sm_of {m i : Int} (h : -m ≤ i ∧ i ≤ m) (hm : m < 2 ^ 900) : Sm 1000 i := by
  unfold Sm
  omega
section
variable {fu : Nat} {S : Sto}
end
end Sp
namespace Sp
open PySem PySem.Spec PyProof.Rows L2 Lv Com
open K04 hiding c__law_made
section
variable {S : Sto} {fu : Nat}
theorem reprW_of {d t : D} (h : cRepr [d] S = some (t, S)) : cReprW [d] S = some (t, S) := by
  unfold cReprW
  rw [cReprE_of h]
theorem fi_few : ∀ z ∈ (["", "ab", "abab", "x"] : List Str), Fi 0 100 (.str z) := by
  have h : (["", "ab", "abab", "x"] : List Str).all (fun z => (PyData.str z).showable && !(PyData.str z).hasDict && decide ((PyData.str z).depth ≤ 0) && decide ((PyData.str z).shown.length ≤ 100)) = true := by decide +kernel
  intro z hz
  have := List.all_eq_true.mp h z hz
  simp only [Bool.and_eq_true, decide_eq_true_eq, Bool.not_eq_true'] at this
  exact ⟨this.1.1.1, this.1.1.2, this.1.2, this.2⟩
theorem v_non : VOk .non := ⟨rfl, rfl, fun S => by rfl, _, fun S => reprW_of (repr_ok (S := S) (p := .none) rfl fi_non (by decide) (by decide))⟩
theorem v_tt : VOk (.bl true) := ⟨rfl, rfl, fun S => by rfl, _, fun S => reprW_of (repr_ok (S := S) (p := .bool true) rfl (fi_bl true) (by decide) (by decide))⟩
theorem v_int {n : Int} (h : Sm 1000 n) : VOk (.int n) := ⟨rfl, rfl, fun S => by
  show gEqv false (.int n) (.int n) S = _
  simp, _, fun S => reprW_of (repr_ok (S := S) (p := .int n) rfl (fi_int h) (by decide) (by decide))⟩
theorem v_str {z : Str} (h : z ∈ (["", "ab", "abab", "x"] : List Str)) : VOk (.str z) := ⟨rfl, rfl, fun S => by
  show gEqv false (.str z) (.str z) S = _
  simp, _, fun S => reprW_of (repr_ok (S := S) (p := .str z) rfl (fi_few z h) (by decide) (by decide))⟩
theorem shx {n : Int} : SeqAt.shaped (.tuple [.str "x", .list [.int n]]) = true := shaped_of (k := 2) (by
  have h : PyData.strOk "x" = true := by decide +kernel
  simp [PyData.canLay0, PyData.canLayAll0, h]) (by simp [PyData.depth, PyData.depthAll]) (by decide)
theorem shy {n : Int} : SeqAt.shaped (.list [.int n, .int 1]) = true := shaped_of (k := 2) (by
  simp [PyData.canLay0, PyData.canLayAll0]) (by simp [PyData.depth, PyData.depthAll]) (by decide)
theorem v_tup {n : Int} (h : Sm 1000 n) : VOk (.tup [.str "x", .vl [.int n]]) := by
  refine ⟨rfl, rfl, fun S => ?_, _, fun S => reprW_of (repr_ok (S := S) (p := .tuple [.str "x", .list [.int n]]) rfl (fi_tuple (n := 2) (k := 1) (L := 1015) (fun p hp => ?_) (by simp)) (by decide) (by decide))⟩
  · rw [show gEqW (.tup [.str "x", .vl [.int n]]) (.tup [.str "x", .vl [.int n]]) S = gEqd false (.tup [.str "x", .vl [.int n]]) (.tup [.str "x", .vl [.int n]]) S from rfl]
    unfold gEqd
    have e : toP 60 S (.tup [.str "x", .vl [.int n]]) = some (.tuple [.str "x", .list [.int n]]) := rfl
    rw [e]
    dsimp only
    rw [if_pos (by rw [shx]; rfl)]
    simp [PyData.eqv, PyData.eqvAll]
  · simp only [List.mem_cons, List.not_mem_nil, or_false] at hp
    rcases hp with rfl | rfl
    · obtain ⟨a, b, c, d⟩ := fi_few "x" (by simp)
      exact ⟨a, b, Nat.le_trans c (by decide), Nat.le_trans d (by decide)⟩
    · exact fi_list (n := 1) (k := 0) (L := 1010) (fun p hp => by
        simp only [List.mem_cons, List.not_mem_nil, or_false] at hp
        subst hp
        exact fi_int h) (by simp)
theorem c1 : cond1 "a" 1 = true := by decide +kernel
theorem v_dv : VOk (.dv [.inr "a"] [.int 1]) := ⟨rfl, rfl, fun S => by
  show (if ("a" : Str) = "a" ∧ (1 : Int) = 1 then some (D.bl true, S) else none) = _
  rw [if_pos ⟨rfl, rfl⟩], txt1 "a" 1, fun S => by
  show (if cond1 "a" 1 = true then some (D.str (txt1 "a" 1), S) else none) = _
  rw [if_pos c1]⟩
theorem disp4 {fs : List (EF × EF)} {kv : List (Key × D)} {env : Lv.Env} (h : ∀ X : Sto, pairsD fs env X = some (kv, X)) (nd : (kv.map (·.1)).Nodup) (hl : kv.length ≤ 15) (nr : noRefs (kv.map (·.2)) = true) : eDisp fs env S = some (.dv (kv.map (·.1)) (kv.map (·.2)), S) := by
  have e1 : (S ++ [Cell.dic [] []]).set S.length (.dic (kv.map (·.1)) (kv.map (·.2))) = S ++ [.dic (kv.map (·.1)) (kv.map (·.2))] := by
    rw [List.set_append_right _ _ (Nat.le_refl _), Nat.sub_self]; rfl
  have e2 : (S ++ [Cell.dic [] []])[S.length]? = some (.dic [] []) := by
    rw [List.getElem?_append_right (Nat.le_refl _), Nat.sub_self]; rfl
  unfold eDisp
  rw [h]
  dsimp only
  rw [e1, e2, if_pos ⟨nd, hl, rfl, oldok_app⟩, mapO_nr nr]
  dsimp only
  rw [List.take_left' rfl]
noncomputable def lb3 (fu : Nat) : SF := (sCons (sIf (tOrF (tNotF (truF (eCall (c__law_row_right fu) (aCons (eCall (K04.c__law_made fu) (aCons (eVar 3) aNil)) (aCons (eVar 3) aNil))))) (tNotF (truF (eCall (c__law_row_right fu) (aCons (eCall (c__law_by_name fu) (aCons (eVar 3) aNil)) (aCons (eVar 3) aNil)))))) (sCons (sRet (eC (.bl false))) sNil) sNil) sNil)
noncomputable def lb5 (fu : Nat) : SF := (sCons (sIf (tOrF (tNotF (truF (eCall (cIsX kkTG kkTV kkTN) (aCons (eVar 4) (aCons (eC (.ty "ValueError")) aNil))))) (truB (eBin (gIn2 false) (eC (.bl true)) (eCall (c__law_kinds fu) (aCons (eVar 4) aNil))))) (sCons (sRet (eC (.bl false))) sNil) sNil) sNil)
noncomputable def lb10 (fu : Nat) : SF := (sCons (sIf (tOrF (tNotF (truF (eCall (cIsX kkTG kkTV kkTN) (aCons (eVar 4) (aCons (eC (.gl "BoundError")) aNil))))) (tNotF (truF (eCall (cIsX kkTG kkTV kkTN) (aCons (eVar 4) (aCons (eC (.ty "ValueError")) aNil)))))) (sCons (sRet (eC (.bl false))) sNil) sNil) (sCons (sIf (truB (eBin (gEqv true) (eCall (c__law_kinds fu) (aCons (eVar 4) aNil)) (eComp false fu [8] (iRange1 (aCons (eC (.int 24)) aNil)) (.nm 8) tYesF (eBin (gEqv false) (eVar 8) (eBin (gAdd false) (eC (.int 22)) (eVar 7)))))) (sCons (sRet (eC (.bl false))) sNil) sNil) sNil))
noncomputable def lq1 (fu : Nat) : SF := (sSet 1 (eCall (Com.v__law_generator fu) (aCons (eVar 0) (aCons (eC (.int 0)) aNil))))
noncomputable def lq2 (fu : Nat) : SF := (sSet 2 (eCall (Com.c__law_random fu) (aCons (eVar 1) (aCons (eBin (gArith fPow) (eC (.int 10)) (eC (.int 29))) aNil))))
noncomputable def lq3 (fu : Nat) : SF := (sFor fu (.nm 3) (iAny (eCall (cLst false) (aCons (eC .non) (aCons (eVar 2) (aCons (eBin gMulS (eC (.str "ab")) (eCall (Com.c__law_random fu) (aCons (eVar 1) (aCons (eC (.int 3)) aNil)))) (aCons (eCall cTup (aCons (eC (.str "x")) (aCons (eCall (cLst false) (aCons (eVar 2) aNil)) aNil))) (aCons (eDisp [((eC (.str "a")), (eC (.int 1)))]) (aCons (eC (.bl true)) aNil)))))))) (lb3 fu))
noncomputable def lq4 (fu : Nat) : SF := (sIf (tNotF (truF (eCall (c__law_row_right fu) (aCons (eCall (c__law_empty fu) aNil) (aCons (eC .non) aNil))))) (sCons (sRet (eC (.bl false))) sNil) sNil)
noncomputable def lq5 (fu : Nat) : SF := (sFor fu (.nm 4) (iAny (eCall (cLst false) (aCons (eMkN "BoundError" aNil) (aCons (eMkN "BoundError" (aCons (eC (.str "a")) (aCons (eVar 2) aNil))) aNil)))) (lb5 fu))
noncomputable def lq6 (fu : Nat) : SF := (sSet 5 (eCall (cLst true) (aCons (eVar 2) aNil)))
noncomputable def lq7 (fu : Nat) : SF := (sSet 6 (eCall (K04.c__law_made fu) (aCons (eVar 5) aNil)))
noncomputable def lq8 (fu : Nat) : SF := (sDrop (eMethL mAppend (eVar 5) (aCons (eC (.int 1)) aNil)))
noncomputable def lq9 (fu : Nat) : SF := (sIf (truB (eBin (gEqv true) (eComp false fu [4] (iAny (eVar 6)) (.nm 4) (truB (eBin (gEqv true) (eValT kkERR (eVar 4)) (eCall (cLst false) (aCons (eVar 2) (aCons (eC (.int 1)) aNil))))) (eVar 4)) (eCall (cLst false) aNil))) (sCons (sRet (eC (.bl false))) sNil) sNil)
noncomputable def lq10 (fu : Nat) : SF := (sFor fu (.tp [7, 4]) (iEnumF (aCons (eCall (cLst false) (aCons (eMkN "NothingToUndo" aNil) (aCons (eMkN "NothingToRedo" aNil) aNil))) aNil)) (lb10 fu))
noncomputable def lq11 (fu : Nat) : SF := (sRet (eC (.bl true)))
noncomputable def lqt11 (fu : Nat) : SF := sCons (lq11 fu) sNil
noncomputable def lqt10 (fu : Nat) : SF := sCons (lq10 fu) (lqt11 fu)
noncomputable def lqt9 (fu : Nat) : SF := sCons (lq9 fu) (lqt10 fu)
noncomputable def lqt8 (fu : Nat) : SF := sCons (lq8 fu) (lqt9 fu)
noncomputable def lqt7 (fu : Nat) : SF := sCons (lq7 fu) (lqt8 fu)
noncomputable def lqt6 (fu : Nat) : SF := sCons (lq6 fu) (lqt7 fu)
noncomputable def lqt5 (fu : Nat) : SF := sCons (lq5 fu) (lqt6 fu)
noncomputable def lqt4 (fu : Nat) : SF := sCons (lq4 fu) (lqt5 fu)
noncomputable def lqt3 (fu : Nat) : SF := sCons (lq3 fu) (lqt4 fu)
noncomputable def lqt2 (fu : Nat) : SF := sCons (lq2 fu) (lqt3 fu)
noncomputable def lqt1 (fu : Nat) : SF := sCons (lq1 fu) (lqt2 fu)
theorem b_law_is (fu : Nat) : K04.b_law fu = lqt1 fu := rfl

theorem mul_few {m : Int} (h0 : 0 ≤ m) (h1 : m < 3) : strMul "ab" m ∈ (["", "ab", "abab", "x"] : List Str) := by
  have : m = 0 ∨ m = 1 ∨ m = 2 := by omega
  rcases this with rfl | rfl | rfl <;> decide +kernel
def six (n m : Int) : List D := [.non, .int n, .str (strMul "ab" m), .tup [.str "x", .vl [.int n]], .dv [.inr "a"] [.int 1], .bl true]
theorem six_ok {n m : Int} (hn : Sm 1000 n) (h0 : 0 ≤ m) (h1 : m < 3) : ∀ v ∈ six n m, VOk v := by
  intro v hv
  simp only [six, List.mem_cons, List.not_mem_nil, or_false] at hv
  rcases hv with rfl | rfl | rfl | rfl | rfl | rfl
  · exact v_non
  · exact v_int hn
  · exact v_str (mul_few h0 h1)
  · exact v_tup hn
  · exact v_dv
  · exact v_tt
theorem lb3_ok (hf : 10000 ≤ fu) {a b c d e f g h i : Option D} {v : D} (hv : VOk v) : lb3 fu [a, b, c, some v, e, f, g, h, i] S = some (.nx [a, b, c, some v, e, f, g, h, i], S) := by
  have e1 : ∀ S : Sto, K04.c__law_made fu [v] S = some (dMade v, S) := fun S => made4_ok (okv_nr hv.nr)
  have e2 : ∀ S : Sto, c__law_by_name fu [v] S = some (dMade v, S) := fun S => by_name_ok (okv_nr hv.nr)
  have e3 : ∀ S : Sto, c__law_row_right fu [dMade v, v] S = some (.bl true, S) := fun S => row4_ok hf hv
  generalize dMade v = A at *
  unfold lb3
  simp only [r_sCons, r_sIf, r_tAnd, r_tOr, r_tNot, r_truB, r_truF, r_truD_bl, r_eBin, r_eVar, r_eC, r_eCall, r_eCallK, r_aCons, r_aNil, r_eAnd, r_eOr, r_eNotT, r_eIf, r_eNeg, r_eChain, r_sNil, r_sDrop, r_sRet, r_sSet, r_sAsg, r_sPar, r_nm, r_tp, r_sets, r_sets0, List.getElem?_cons_zero, List.getElem?_cons_succ, List.set_cons_zero, List.set_cons_succ, List.length_cons, List.length_nil, List.map_cons, List.map_nil, List.cons_append, List.nil_append, Nat.zero_add, Nat.reduceAdd, Nat.sub_self, Nat.reduceSub, Nat.add_zero, List.reduceReplicate, List.replicate_zero, List.append_nil, if_true, if_false, Bool.false_eq_true, Bool.not_true, Bool.not_false, Bool.true_and, Bool.and_true, Bool.false_and, Bool.and_false, Bool.or_true, Bool.true_or, Bool.false_or, Bool.or_false, reduceIte, r_fnF, r_sealed, r_start, t_tup0, t_tup1, t_tup2, t_tup3, t_tup4, t_lst0, t_lst1, t_lst2, t_lst3, t_lst4, t_lst5, t_lst6, t_lst7, t_lst8, t_lst9, t_lst10, r_mkV, r_mkR, r_isN, r_non0, r_non1, r_non2, r_non3, r_non4, r_non5, r_non6, isi_int, isi_intb, isi_tup, isi_str, isi_vl, isi_ints, isi_tups, r_cmp2i, r_cmp2t, r_cmpI, r_eqv_int, r_eqv_str, r_add, r_sub, r_arith, r_ix_tup, r_ix_vl, r_len_tup, r_len_vl, r_cInt, r_cMin, r_cMax, r_lof_vl, r_lof_tup, r_tof_vl, r_tof_tup, r_truD_vl, r_truD_tup, r_truD_int, r_truD_non, r_oSome, r_oNone, r_eSl, r_sl_vl, r_sl_tup, r_iAny, r_eMethL, r_isRef_vl, ix20, ix21, nr_int, nr_bl, nr_non, nr_str, nr_tup, nr_vl, nrs_nil, nrs_cons, shut_same, pick_nil, pick_cons, decide_true, decide_false, e1, e2, e3]
theorem lq3_ok (hf : 10000 ≤ fu) {a f g h i : Option D} {k : Nat} {G : Gn} {n : Int} (hn : Sm 1000 n) (eg : S[k]? = some (gc G)) (hG : OkG 5 G) :
    ∃ (x : Option D) (G' : Gn), lq3 fu [a, some (.ref k), some (.int n), none, none, f, g, h, i] S = some (.nx [a, some (.ref k), some (.int n), x, none, f, g, h, i], S.set k (gc G')) := by
  obtain ⟨m, G', e1, h0, h1, _⟩ := random_ok hf eg hG (by decide) (b := 3) (by decide) (by decide)
  have e1' : Com.c__law_random fu [.ref k, .int 3] S = some (.int m, S.set k (gc G')) := e1
  have e2 : ∀ (env : Lv.Env) (T : Sto), eDisp [((eC (.str "a")), (eC (.int 1)))] env T = some (.dv [.inr "a"] [.int 1], T) := fun env T => disp4 (kv := [(.inr "a", .int 1)]) (fun X => rfl) (by simp) (by simp) rfl
  have e3 : ∀ T : Sto, gMulS (.str "ab") (.int m) T = some (.str (strMul "ab" m), T) := fun T => by
    show (if -1000 ≤ m ∧ m ≤ 1000 ∧ ("ab" : Str).length ≤ 1000 then some (D.str (strMul "ab" m), T) else none) = _
    rw [if_pos ⟨by omega, by omega, by decide⟩]
  obtain ⟨e', S', hl, x, rfl, rfl⟩ := forL_fix (b := lb3 fu) (t := .nm 3) (ds := six n m) (fun i' env S' => ∃ x, env = [a, some (.ref k), some (.int n), x, none, f, g, h, i] ∧ S' = S.set k (gc G')) fu 0 [a, some (.ref k), some (.int n), none, none, f, g, h, i] (S.set k (gc G')) ⟨none, rfl, rfl⟩ (Nat.zero_le _) (by simp [six]; omega) (by
    rintro j v env S2 hd ⟨x, rfl, rfl⟩
    exact ⟨_, rfl, _, _, lb3_ok (d := x) hf (six_ok hn h0 h1 v (List.mem_of_getElem? hd)), _, rfl, rfl⟩)
  refine ⟨x, G', for_eq (src := .fix (six n m)) (S1 := S.set k (gc G')) ?_ hl⟩
  generalize gc G' = c at *
  simp only [r_sCons, r_sIf, r_tAnd, r_tOr, r_tNot, r_truB, r_truF, r_truD_bl, r_eBin, r_eVar, r_eC, r_eCall, r_eCallK, r_aCons, r_aNil, r_eAnd, r_eOr, r_eNotT, r_eIf, r_eNeg, r_eChain, r_sNil, r_sDrop, r_sRet, r_sSet, r_sAsg, r_sPar, r_nm, r_tp, r_sets, r_sets0, List.getElem?_cons_zero, List.getElem?_cons_succ, List.set_cons_zero, List.set_cons_succ, List.length_cons, List.length_nil, List.map_cons, List.map_nil, List.cons_append, List.nil_append, Nat.zero_add, Nat.reduceAdd, Nat.sub_self, Nat.reduceSub, Nat.add_zero, List.reduceReplicate, List.replicate_zero, List.append_nil, if_true, if_false, Bool.false_eq_true, Bool.not_true, Bool.not_false, Bool.true_and, Bool.and_true, Bool.false_and, Bool.and_false, Bool.or_true, Bool.true_or, Bool.false_or, Bool.or_false, reduceIte, r_fnF, r_sealed, r_start, t_tup0, t_tup1, t_tup2, t_tup3, t_tup4, t_lst0, t_lst1, t_lst2, t_lst3, t_lst4, t_lst5, t_lst6, t_lst7, t_lst8, t_lst9, t_lst10, r_mkV, r_mkR, r_isN, r_non0, r_non1, r_non2, r_non3, r_non4, r_non5, r_non6, isi_int, isi_intb, isi_tup, isi_str, isi_vl, isi_ints, isi_tups, r_cmp2i, r_cmp2t, r_cmpI, r_eqv_int, r_eqv_str, r_add, r_sub, r_arith, r_ix_tup, r_ix_vl, r_len_tup, r_len_vl, r_cInt, r_cMin, r_cMax, r_lof_vl, r_lof_tup, r_tof_vl, r_tof_tup, r_truD_vl, r_truD_tup, r_truD_int, r_truD_non, r_oSome, r_oNone, r_eSl, r_sl_vl, r_sl_tup, r_iAny, r_eMethL, r_isRef_vl, ix20, ix21, nr_int, nr_bl, nr_non, nr_str, nr_tup, nr_vl, nrs_nil, nrs_cons, shut_same, pick_nil, pick_cons, decide_true, decide_false, e1', e2, e3, r_cLst, mkV]
  rfl
theorem lq4_ok (hf : 10000 ≤ fu) {env : Lv.Env} : lq4 fu env S = some (.nx env, S) := by
  have e1 : ∀ S : Sto, c__law_empty fu [] S = some (dMade .non, S) := fun S => empty_ok
  have e3 : ∀ S : Sto, c__law_row_right fu [dMade .non, .non] S = some (.bl true, S) := fun S => row4_ok hf v_non
  generalize dMade .non = A at *
  unfold lq4
  simp only [r_sCons, r_sIf, r_tAnd, r_tOr, r_tNot, r_truB, r_truF, r_truD_bl, r_eBin, r_eVar, r_eC, r_eCall, r_eCallK, r_aCons, r_aNil, r_eAnd, r_eOr, r_eNotT, r_eIf, r_eNeg, r_eChain, r_sNil, r_sDrop, r_sRet, r_sSet, r_sAsg, r_sPar, r_nm, r_tp, r_sets, r_sets0, List.getElem?_cons_zero, List.getElem?_cons_succ, List.set_cons_zero, List.set_cons_succ, List.length_cons, List.length_nil, List.map_cons, List.map_nil, List.cons_append, List.nil_append, Nat.zero_add, Nat.reduceAdd, Nat.sub_self, Nat.reduceSub, Nat.add_zero, List.reduceReplicate, List.replicate_zero, List.append_nil, if_true, if_false, Bool.false_eq_true, Bool.not_true, Bool.not_false, Bool.true_and, Bool.and_true, Bool.false_and, Bool.and_false, Bool.or_true, Bool.true_or, Bool.false_or, Bool.or_false, reduceIte, r_fnF, r_sealed, r_start, t_tup0, t_tup1, t_tup2, t_tup3, t_tup4, t_lst0, t_lst1, t_lst2, t_lst3, t_lst4, t_lst5, t_lst6, t_lst7, t_lst8, t_lst9, t_lst10, r_mkV, r_mkR, r_isN, r_non0, r_non1, r_non2, r_non3, r_non4, r_non5, r_non6, isi_int, isi_intb, isi_tup, isi_str, isi_vl, isi_ints, isi_tups, r_cmp2i, r_cmp2t, r_cmpI, r_eqv_int, r_eqv_str, r_add, r_sub, r_arith, r_ix_tup, r_ix_vl, r_len_tup, r_len_vl, r_cInt, r_cMin, r_cMax, r_lof_vl, r_lof_tup, r_tof_vl, r_tof_tup, r_truD_vl, r_truD_tup, r_truD_int, r_truD_non, r_oSome, r_oNone, r_eSl, r_sl_vl, r_sl_tup, r_iAny, r_eMethL, r_isRef_vl, ix20, ix21, nr_int, nr_bl, nr_non, nr_str, nr_tup, nr_vl, nrs_nil, nrs_cons, shut_same, pick_nil, pick_cons, decide_true, decide_false, e1, e3]
theorem kinds0 {v : D} : K04.c__law_kinds fu [.exc "BoundError" v] S = some (.vl (List.replicate 24 (.bl false)), S) := by
  rw [kinds_ok bound_in]
  have := congrArg (List.map D.bl) flags0
  rw [List.map_map] at this
  exact congrArg (fun z => some (D.vl z, S)) (this.trans (by simp))
theorem lq5_ok (hf : 10000 ≤ fu) {a b d f g h i : Option D} {n : Int} : ∃ x, lq5 fu [a, b, some (.int n), d, none, f, g, h, i] S = some (.nx [a, b, some (.int n), d, x, f, g, h, i], S) := by
  obtain ⟨e', S', hl, x, rfl, rfl⟩ := forL_fix (b := lb5 fu) (t := .nm 4) (ds := [.exc "BoundError" (.ty "#"), .exc "BoundError" (.ty "#")]) (fun i' env S' => ∃ x, env = [a, b, some (.int n), d, x, f, g, h, i] ∧ S' = S) fu 0 [a, b, some (.int n), d, none, f, g, h, i] S ⟨none, rfl, rfl⟩ (Nat.zero_le _) (by simp; omega) (by
    rintro j v env S2 hd ⟨x, rfl, rfl⟩
    have hv : v = .exc "BoundError" (.ty "#") := by
      have := List.mem_of_getElem? hd
      simpa using this
    subst hv
    refine ⟨_, rfl, [a, b, some (.int n), d, some (.exc "BoundError" (.ty "#")), f, g, h, i], S2, ?_, _, rfl, rfl⟩
    have e1 : ∀ S : Sto, cIsX kkTG kkTV kkTN [.exc "BoundError" (.ty "#"), .ty "ValueError"] S = some (.bl true, S) := fun S => isv bound_in
    have e2 : ∀ S : Sto, K04.c__law_kinds fu [.exc "BoundError" (.ty "#")] S = some (.vl (List.replicate 24 (.bl false)), S) := fun S => kinds0
    have e3 : ∀ S : Sto, gIn2 false (.bl true) (.vl (List.replicate 24 (.bl false))) S = some (.bl false, S) := fun S => by rfl
    generalize D.vl (List.replicate 24 (.bl false)) = A at *
    generalize D.exc "BoundError" (.ty "#") = B at *
    unfold lb5
    simp only [r_sCons, r_sIf, r_tAnd, r_tOr, r_tNot, r_truB, r_truF, r_truD_bl, r_eBin, r_eVar, r_eC, r_eCall, r_eCallK, r_aCons, r_aNil, r_eAnd, r_eOr, r_eNotT, r_eIf, r_eNeg, r_eChain, r_sNil, r_sDrop, r_sRet, r_sSet, r_sAsg, r_sPar, r_nm, r_tp, r_sets, r_sets0, List.getElem?_cons_zero, List.getElem?_cons_succ, List.set_cons_zero, List.set_cons_succ, List.length_cons, List.length_nil, List.map_cons, List.map_nil, List.cons_append, List.nil_append, Nat.zero_add, Nat.reduceAdd, Nat.sub_self, Nat.reduceSub, Nat.add_zero, List.reduceReplicate, List.replicate_zero, List.append_nil, if_true, if_false, Bool.false_eq_true, Bool.not_true, Bool.not_false, Bool.true_and, Bool.and_true, Bool.false_and, Bool.and_false, Bool.or_true, Bool.true_or, Bool.false_or, Bool.or_false, reduceIte, r_fnF, r_sealed, r_start, t_tup0, t_tup1, t_tup2, t_tup3, t_tup4, t_lst0, t_lst1, t_lst2, t_lst3, t_lst4, t_lst5, t_lst6, t_lst7, t_lst8, t_lst9, t_lst10, r_mkV, r_mkR, r_isN, r_non0, r_non1, r_non2, r_non3, r_non4, r_non5, r_non6, isi_int, isi_intb, isi_tup, isi_str, isi_vl, isi_ints, isi_tups, r_cmp2i, r_cmp2t, r_cmpI, r_eqv_int, r_eqv_str, r_add, r_sub, r_arith, r_ix_tup, r_ix_vl, r_len_tup, r_len_vl, r_cInt, r_cMin, r_cMax, r_lof_vl, r_lof_tup, r_tof_vl, r_tof_tup, r_truD_vl, r_truD_tup, r_truD_int, r_truD_non, r_oSome, r_oNone, r_eSl, r_sl_vl, r_sl_tup, r_iAny, r_eMethL, r_isRef_vl, ix20, ix21, nr_int, nr_bl, nr_non, nr_str, nr_tup, nr_vl, nrs_nil, nrs_cons, shut_same, pick_nil, pick_cons, decide_true, decide_false, e1, e2, e3])
  exact ⟨x, for_eq (src := .fix [.exc "BoundError" (.ty "#"), .exc "BoundError" (.ty "#")]) (by rfl) hl⟩
theorem eq_ref4 {k : Nat} {n : Int} (h : S[k]? = some (.lst [.int n, .int 1])) : gEqv true (.ref k) (.vl [.int n, .int 1]) S = some (.bl false, S) := by
  show gEqd true _ _ S = _
  unfold gEqd
  have e1 : toP 60 S (.ref k) = some (.list [.int n, .int 1]) := by
    unfold toP
    rw [h]
    rfl
  have e2 : toP 60 S (.vl [.int n, .int 1]) = some (.list [.int n, .int 1]) := rfl
  rw [e1, e2]
  dsimp only
  rw [if_pos (by rw [shy]; rfl)]
  simp [PyData.eqv, PyData.eqvAll]
theorem comp_none4 {α : Type} {n : Nat} {own : List Nat} {it : IFn} {t : Tg} {c : TF} {f : EF} {env : Lv.Env} {xs : List α} {enc : α → D} (hit : it env S = some (.fix (xs.map enc), S)) (hn : xs.length < n) (hl : xs.length ≤ 1000000)
    (hb : ∀ x ∈ xs, ∀ T : Sto, ∃ e1, setTg t (enc x) (wipeE env own) = some e1 ∧ c e1 (S ++ T) = some (false, S ++ T)) : eComp false n own it t c f env S = some (.vl [], S) := by
  unfold eComp
  rw [hit]
  dsimp only
  have hlen : (xs.map enc).length = xs.length := List.length_map _
  obtain ⟨acc, S', e, h1, h2⟩ := compL_fix (t := t) (c := c) (f := f) (kC := S.length) (env := wipeE env own) (ds := xs.map enc) (fun i acc S' => S' = S ++ [.lst acc] ∧ acc = [])
    (by rintro i acc S' ⟨rfl, _⟩; exact new_last) n 0 [] (S ++ [.lst []]) ⟨rfl, rfl⟩ (Nat.zero_le _) (by omega) (by
      rintro i d acc S' hd ⟨rfl, rfl⟩
      rw [List.getElem?_map] at hd
      cases hx : xs[i]? with
      | none => rw [hx] at hd; cases hd
      | some x =>
        rw [hx] at hd
        cases hd
        obtain ⟨e1, k1, k2⟩ := hb x (List.mem_of_getElem? hx) [.lst []]
        exact ⟨e1, k1, false, _, k2, fun hp => ⟨rfl, rfl⟩, fun hp => by cases hp⟩)
  rw [e, h1]
  dsimp only
  subst h2
  unfold finC
  rw [if_neg (by decide)]
  exact shut_ref (T := []) rfl
theorem lq9_ok (hf : 10000 ≤ fu) {a b d e f h i : Option D} {n : Int} {k : Nat} (hk : S[k]? = some (.lst [.int n, .int 1])) :
    lq9 fu [a, b, some (.int n), d, e, f, some (dMade (.ref k)), h, i] S = some (.nx [a, b, some (.int n), d, e, f, some (dMade (.ref k)), h, i], S) := by
  have e1 : eComp false fu [4] (iAny (eVar 6)) (.nm 4) (truB (eBin (gEqv true) (eValT kkERR (eVar 4)) (eCall (cLst false) (aCons (eVar 2) (aCons (eC (.int 1)) aNil))))) (eVar 4) [a, b, some (.int n), d, e, f, some (dMade (.ref k)), h, i] S = some (.vl [], S) := by
    rw [comp_none4 (xs := nm22) (enc := fun m => .exc m (.ref k)) (by rfl) (by simp [nm22]; omega) (by simp [nm22]) (fun m hm T => ⟨[a, b, some (.int n), d, some (.exc m (.ref k)), f, some (dMade (.ref k)), h, i], rfl, by
      have hE : kkERR.contains m = true := by
        have : ∀ m ∈ nm22, kkERR.contains m = true := by decide +kernel
        exact this m hm
      have e4 : eValT kkERR (eVar 4) [a, b, some (.int n), d, some (.exc m (.ref k)), f, some (dMade (.ref k)), h, i] (S ++ T) = some (.ref k, S ++ T) := by
        show (if (kkERR.contains m && notF (.ref k)) = true then some (D.ref k, S ++ T) else none) = _
        rw [hE]
        rfl
      have hk' : (S ++ T)[k]? = some (.lst [.int n, .int 1]) := by
        rw [List.getElem?_append_left (List.getElem?_eq_some_iff.mp hk).1]
        exact hk
      generalize dMade (.ref k) = A at *
      have e5 := eq_ref4 hk'
      generalize S ++ T = Z at *
      simp only [r_sCons, r_sIf, r_tAnd, r_tOr, r_tNot, r_truB, r_truF, r_truD_bl, r_eBin, r_eVar, r_eC, r_eCall, r_eCallK, r_aCons, r_aNil, r_eAnd, r_eOr, r_eNotT, r_eIf, r_eNeg, r_eChain, r_sNil, r_sDrop, r_sRet, r_sSet, r_sAsg, r_sPar, r_nm, r_tp, r_sets, r_sets0, List.getElem?_cons_zero, List.getElem?_cons_succ, List.set_cons_zero, List.set_cons_succ, List.length_cons, List.length_nil, List.map_cons, List.map_nil, List.cons_append, List.nil_append, Nat.zero_add, Nat.reduceAdd, Nat.sub_self, Nat.reduceSub, Nat.add_zero, List.reduceReplicate, List.replicate_zero, List.append_nil, if_true, if_false, Bool.false_eq_true, Bool.not_true, Bool.not_false, Bool.true_and, Bool.and_true, Bool.false_and, Bool.and_false, Bool.or_true, Bool.true_or, Bool.false_or, Bool.or_false, reduceIte, r_fnF, r_sealed, r_start, t_tup0, t_tup1, t_tup2, t_tup3, t_tup4, t_lst0, t_lst1, t_lst2, t_lst3, t_lst4, t_lst5, t_lst6, t_lst7, t_lst8, t_lst9, t_lst10, r_mkV, r_mkR, r_isN, r_non0, r_non1, r_non2, r_non3, r_non4, r_non5, r_non6, isi_int, isi_intb, isi_tup, isi_str, isi_vl, isi_ints, isi_tups, r_cmp2i, r_cmp2t, r_cmpI, r_eqv_int, r_eqv_str, r_add, r_sub, r_arith, r_ix_tup, r_ix_vl, r_len_tup, r_len_vl, r_cInt, r_cMin, r_cMax, r_lof_vl, r_lof_tup, r_tof_vl, r_tof_tup, r_truD_vl, r_truD_tup, r_truD_int, r_truD_non, r_oSome, r_oNone, r_eSl, r_sl_vl, r_sl_tup, r_iAny, r_eMethL, r_isRef_vl, ix20, ix21, nr_int, nr_bl, nr_non, nr_str, nr_tup, nr_vl, nrs_nil, nrs_cons, shut_same, pick_nil, pick_cons, decide_true, decide_false, e4, e5]⟩)]
  have e2 : ∀ S : Sto, gEqv true (.vl []) (.vl []) S = some (.bl false, S) := fun S => by rfl
  generalize dMade (.ref k) = A at *
  unfold lq9
  simp only [r_sCons, r_sIf, r_tAnd, r_tOr, r_tNot, r_truB, r_truF, r_truD_bl, r_eBin, r_eVar, r_eC, r_eCall, r_eCallK, r_aCons, r_aNil, r_eAnd, r_eOr, r_eNotT, r_eIf, r_eNeg, r_eChain, r_sNil, r_sDrop, r_sRet, r_sSet, r_sAsg, r_sPar, r_nm, r_tp, r_sets, r_sets0, List.getElem?_cons_zero, List.getElem?_cons_succ, List.set_cons_zero, List.set_cons_succ, List.length_cons, List.length_nil, List.map_cons, List.map_nil, List.cons_append, List.nil_append, Nat.zero_add, Nat.reduceAdd, Nat.sub_self, Nat.reduceSub, Nat.add_zero, List.reduceReplicate, List.replicate_zero, List.append_nil, if_true, if_false, Bool.false_eq_true, Bool.not_true, Bool.not_false, Bool.true_and, Bool.and_true, Bool.false_and, Bool.and_false, Bool.or_true, Bool.true_or, Bool.false_or, Bool.or_false, reduceIte, r_fnF, r_sealed, r_start, t_tup0, t_tup1, t_tup2, t_tup3, t_tup4, t_lst0, t_lst1, t_lst2, t_lst3, t_lst4, t_lst5, t_lst6, t_lst7, t_lst8, t_lst9, t_lst10, r_mkV, r_mkR, r_isN, r_non0, r_non1, r_non2, r_non3, r_non4, r_non5, r_non6, isi_int, isi_intb, isi_tup, isi_str, isi_vl, isi_ints, isi_tups, r_cmp2i, r_cmp2t, r_cmpI, r_eqv_int, r_eqv_str, r_add, r_sub, r_arith, r_ix_tup, r_ix_vl, r_len_tup, r_len_vl, r_cInt, r_cMin, r_cMax, r_lof_vl, r_lof_tup, r_tof_vl, r_tof_tup, r_truD_vl, r_truD_tup, r_truD_int, r_truD_non, r_oSome, r_oNone, r_eSl, r_sl_vl, r_sl_tup, r_iAny, r_eMethL, r_isRef_vl, ix20, ix21, nr_int, nr_bl, nr_non, nr_str, nr_tup, nr_vl, nrs_nil, nrs_cons, shut_same, pick_nil, pick_cons, decide_true, decide_false, e1, e2, r_cLst, mkV]
  rfl
theorem places2_ok (hf : 10000 ≤ fu) {i : Nat} {a b c d e f g h : Option D} : eComp false fu [8] (iRange1 (aCons (eC (.int 24)) aNil)) (.nm 8) tYesF (eBin (gEqv false) (eVar 8) (eBin (gAdd false) (eC (.int 22)) (eVar 7))) [a, b, c, d, e, f, g, some (.int i), h] S
    = some (.vl (((List.range 24).map fun p => p == 22 + i).map D.bl), S) := by
  rw [comp_all (xs := List.range 24) (enc := fun p => .int (p : Nat)) (fun p => .bl (p == 22 + i)) (S1 := S) (by rfl) (by simp; omega) (by simp) (fun p hp S' => ⟨[a, b, c, d, e, f, g, some (.int i), some (.int p)], rfl, by
    simp only [r_sCons, r_sIf, r_tAnd, r_tOr, r_tNot, r_truB, r_truF, r_truD_bl, r_eBin, r_eVar, r_eC, r_eCall, r_eCallK, r_aCons, r_aNil, r_eAnd, r_eOr, r_eNotT, r_eIf, r_eNeg, r_eChain, r_sNil, r_sDrop, r_sRet, r_sSet, r_sAsg, r_sPar, r_nm, r_tp, r_sets, r_sets0, List.getElem?_cons_zero, List.getElem?_cons_succ, List.set_cons_zero, List.set_cons_succ, List.length_cons, List.length_nil, List.map_cons, List.map_nil, List.cons_append, List.nil_append, Nat.zero_add, Nat.reduceAdd, Nat.sub_self, Nat.reduceSub, Nat.add_zero, List.reduceReplicate, List.replicate_zero, List.append_nil, if_true, if_false, Bool.false_eq_true, Bool.not_true, Bool.not_false, Bool.true_and, Bool.and_true, Bool.false_and, Bool.and_false, Bool.or_true, Bool.true_or, Bool.false_or, Bool.or_false, reduceIte, r_fnF, r_sealed, r_start, t_tup0, t_tup1, t_tup2, t_tup3, t_tup4, t_lst0, t_lst1, t_lst2, t_lst3, t_lst4, t_lst5, t_lst6, t_lst7, t_lst8, t_lst9, t_lst10, r_mkV, r_mkR, r_isN, r_non0, r_non1, r_non2, r_non3, r_non4, r_non5, r_non6, isi_int, isi_intb, isi_tup, isi_str, isi_vl, isi_ints, isi_tups, r_cmp2i, r_cmp2t, r_cmpI, r_eqv_int, r_eqv_str, r_add, r_sub, r_arith, r_ix_tup, r_ix_vl, r_len_tup, r_len_vl, r_cInt, r_cMin, r_cMax, r_lof_vl, r_lof_tup, r_tof_vl, r_tof_tup, r_truD_vl, r_truD_tup, r_truD_int, r_truD_non, r_oSome, r_oNone, r_eSl, r_sl_vl, r_sl_tup, r_iAny, r_eMethL, r_isRef_vl, ix20, ix21, nr_int, nr_bl, nr_non, nr_str, nr_tup, nr_vl, nrs_nil, nrs_cons, shut_same, pick_nil, pick_cons, decide_true, decide_false]
    congr 3
    rw [Bool.eq_iff_iff]
    simp
    omega⟩) (fun p hp => rfl)]
  rw [List.map_map]
  rfl
def two4 : List D := [.exc "NothingToUndo" (.ty "#"), .exc "NothingToRedo" (.ty "#")]
theorem two4_at {i : Nat} {d : D} (h : (enumD two4)[i]? = some d) : ∃ (hi : 22 + i < 24), d = .tup [.int (i : Nat), .exc (nm24[22 + i]'hi) (.ty "#")] := by
  match i, h with
  | 0, h => cases h; exact ⟨by decide, rfl⟩
  | 1, h => cases h; exact ⟨by decide, rfl⟩
  | i + 2, h => simp [enumD, two4] at h
theorem lq10_ok (hf : 10000 ≤ fu) {a b c d e f g h : Option D} : ∃ x y, lq10 fu [a, b, c, d, e, f, g, none, none] S = some (.nx [a, b, c, d, y, f, g, x, none], S) := by
  obtain ⟨e', S', hl, x, y, rfl, rfl⟩ := forL_fix (b := lb10 fu) (t := .tp [7, 4]) (ds := enumD two4) (fun i' env S' => ∃ x y, env = [a, b, c, d, y, f, g, x, none] ∧ S' = S) fu 0 [a, b, c, d, e, f, g, none, none] S ⟨none, e, rfl, rfl⟩ (Nat.zero_le _) (by simp [enumD, two4]; omega) (by
    rintro i v env S2 hd ⟨x, y, rfl, rfl⟩
    obtain ⟨hi, rfl⟩ := two4_at hd
    refine ⟨_, rfl, [a, b, c, d, some (.exc (nm24[22 + i]'hi) (.ty "#")), f, g, some (.int i), none], S2, ?_, _, _, rfl, rfl⟩
    have hm : nm24[22 + i]'hi ∈ nm24 := List.getElem_mem _
    have hn := in_nm _ hm
    have hb : supOf kkSUP (nm24[22 + i]'hi) "BoundError" = true := bnds _ hm
    have hfl : (nm24.map fun m => D.bl (supOf kkSUP (nm24[22 + i]'hi) m)) = ((List.range 24).map fun p => p == 22 + i).map D.bl := by
      have := congrArg (List.map D.bl) (flags ⟨22 + i, hi⟩)
      rw [List.map_map] at this
      exact this
    generalize nm24[22 + i]'hi = n at *
    have e1 : ∀ S : Sto, cIsX kkTG kkTV kkTN [.exc n (.ty "#"), .gl "BoundError"] S = some (.bl true, S) := fun S => by rw [isx hn bound_in, hb]
    have e2 : ∀ S : Sto, cIsX kkTG kkTV kkTN [.exc n (.ty "#"), .ty "ValueError"] S = some (.bl true, S) := fun S => isv hn
    have e3 : ∀ S : Sto, K04.c__law_kinds fu [.exc n (.ty "#")] S = some (.vl (((List.range 24).map fun p => p == 22 + i).map D.bl), S) := fun S => by rw [kinds_ok hn, hfl]
    have e6 : ∀ S : Sto, gEqv true (.vl (((List.range 24).map fun p => p == 22 + i).map D.bl)) (.vl (((List.range 24).map fun p => p == 22 + i).map D.bl)) S = some (.bl false, S) := fun S => same_bls (shp ⟨22 + i, hi⟩)
    have e7 : ∀ S : Sto, eComp false fu [8] (iRange1 (aCons (eC (.int 24)) aNil)) (.nm 8) tYesF (eBin (gEqv false) (eVar 8) (eBin (gAdd false) (eC (.int 22)) (eVar 7))) [a, b, c, d, some (.exc n (.ty "#")), f, g, some (.int i), none] S = some (.vl (((List.range 24).map fun p => p == 22 + i).map D.bl), S) := fun S => places2_ok hf
    generalize ((List.range 24).map fun p => p == 22 + i).map D.bl = B at *
    unfold lb10
    simp only [r_sCons, r_sIf, r_tAnd, r_tOr, r_tNot, r_truB, r_truF, r_truD_bl, r_eBin, r_eVar, r_eC, r_eCall, r_eCallK, r_aCons, r_aNil, r_eAnd, r_eOr, r_eNotT, r_eIf, r_eNeg, r_eChain, r_sNil, r_sDrop, r_sRet, r_sSet, r_sAsg, r_sPar, r_nm, r_tp, r_sets, r_sets0, List.getElem?_cons_zero, List.getElem?_cons_succ, List.set_cons_zero, List.set_cons_succ, List.length_cons, List.length_nil, List.map_cons, List.map_nil, List.cons_append, List.nil_append, Nat.zero_add, Nat.reduceAdd, Nat.sub_self, Nat.reduceSub, Nat.add_zero, List.reduceReplicate, List.replicate_zero, List.append_nil, if_true, if_false, Bool.false_eq_true, Bool.not_true, Bool.not_false, Bool.true_and, Bool.and_true, Bool.false_and, Bool.and_false, Bool.or_true, Bool.true_or, Bool.false_or, Bool.or_false, reduceIte, r_fnF, r_sealed, r_start, t_tup0, t_tup1, t_tup2, t_tup3, t_tup4, t_lst0, t_lst1, t_lst2, t_lst3, t_lst4, t_lst5, t_lst6, t_lst7, t_lst8, t_lst9, t_lst10, r_mkV, r_mkR, r_isN, r_non0, r_non1, r_non2, r_non3, r_non4, r_non5, r_non6, isi_int, isi_intb, isi_tup, isi_str, isi_vl, isi_ints, isi_tups, r_cmp2i, r_cmp2t, r_cmpI, r_eqv_int, r_eqv_str, r_add, r_sub, r_arith, r_ix_tup, r_ix_vl, r_len_tup, r_len_vl, r_cInt, r_cMin, r_cMax, r_lof_vl, r_lof_tup, r_tof_vl, r_tof_tup, r_truD_vl, r_truD_tup, r_truD_int, r_truD_non, r_oSome, r_oNone, r_eSl, r_sl_vl, r_sl_tup, r_iAny, r_eMethL, r_isRef_vl, ix20, ix21, nr_int, nr_bl, nr_non, nr_str, nr_tup, nr_vl, nrs_nil, nrs_cons, shut_same, pick_nil, pick_cons, decide_true, decide_false, e1, e2, e3, e6, e7])
  exact ⟨x, y, for_eq (src := .fix (enumD two4)) (by rfl) hl⟩
theorem law4_ok (hf : 10000 ≤ fu) {ns : List Int} {d : D} (h : Lv.listOf S d = some (ns.map D.int)) : ∃ S', c_law fu [d] S = some (.bl true, S') := by
  obtain ⟨G, g1, g2⟩ := generator_ok (fu := fu) (i := 0) h (by decide)
  have g1' : Com.v__law_generator fu [d, .int 0] S = some (.ref S.length, S ++ [gc G]) := g1
  obtain ⟨n, G2, r1, r2, r3, r4⟩ := random_ok hf (S := S ++ [gc G]) (g := S.length) (B := 1000 * 0) new_last g2 (by decide) (b := 10 ^ 29) (by decide) (by decide)
  rw [set_last] at r1
  have r1' : Com.c__law_random fu [.ref S.length, .int (10 ^ 29)] (S ++ [gc G]) = some (.int n, S ++ [gc G2]) := r1
  have hn : Sm 1000 n := sm_of (m := 10 ^ 29) ⟨by omega, by omega⟩ (by decide +kernel)
  obtain ⟨x3, G3, s3⟩ := lq3_ok hf (S := S ++ [gc G2]) (a := some d) (f := none) (g := none) (h := none) (i := none) (k := S.length) hn new_last r4
  rw [set_last] at s3
  have s1 : lq1 fu [some d, none, none, none, none, none, none, none, none] S = some (.nx [some d, some (.ref S.length), none, none, none, none, none, none, none], S ++ [gc G]) := by
    unfold lq1
    simp only [r_sCons, r_sIf, r_tAnd, r_tOr, r_tNot, r_truB, r_truF, r_truD_bl, r_eBin, r_eVar, r_eC, r_eCall, r_eCallK, r_aCons, r_aNil, r_eAnd, r_eOr, r_eNotT, r_eIf, r_eNeg, r_eChain, r_sNil, r_sDrop, r_sRet, r_sSet, r_sAsg, r_sPar, r_nm, r_tp, r_sets, r_sets0, List.getElem?_cons_zero, List.getElem?_cons_succ, List.set_cons_zero, List.set_cons_succ, List.length_cons, List.length_nil, List.map_cons, List.map_nil, List.cons_append, List.nil_append, Nat.zero_add, Nat.reduceAdd, Nat.sub_self, Nat.reduceSub, Nat.add_zero, List.reduceReplicate, List.replicate_zero, List.append_nil, if_true, if_false, Bool.false_eq_true, Bool.not_true, Bool.not_false, Bool.true_and, Bool.and_true, Bool.false_and, Bool.and_false, Bool.or_true, Bool.true_or, Bool.false_or, Bool.or_false, reduceIte, r_fnF, r_sealed, r_start, t_tup0, t_tup1, t_tup2, t_tup3, t_tup4, t_lst0, t_lst1, t_lst2, t_lst3, t_lst4, t_lst5, t_lst6, t_lst7, t_lst8, t_lst9, t_lst10, r_mkV, r_mkR, r_isN, r_non0, r_non1, r_non2, r_non3, r_non4, r_non5, r_non6, isi_int, isi_intb, isi_tup, isi_str, isi_vl, isi_ints, isi_tups, r_cmp2i, r_cmp2t, r_cmpI, r_eqv_int, r_eqv_str, r_add, r_sub, r_arith, r_ix_tup, r_ix_vl, r_len_tup, r_len_vl, r_cInt, r_cMin, r_cMax, r_lof_vl, r_lof_tup, r_tof_vl, r_tof_tup, r_truD_vl, r_truD_tup, r_truD_int, r_truD_non, r_oSome, r_oNone, r_eSl, r_sl_vl, r_sl_tup, r_iAny, r_eMethL, r_isRef_vl, ix20, ix21, nr_int, nr_bl, nr_non, nr_str, nr_tup, nr_vl, nrs_nil, nrs_cons, shut_same, pick_nil, pick_cons, decide_true, decide_false, g1']
  have s2 : lq2 fu [some d, some (.ref S.length), none, none, none, none, none, none, none] (S ++ [gc G]) = some (.nx [some d, some (.ref S.length), some (.int n), none, none, none, none, none, none], S ++ [gc G2]) := by
    have e1 : gArith fPow (.int 10) (.int 29) (S ++ [gc G]) = some (.int (10 ^ 29), S ++ [gc G]) := by rfl
    unfold lq2
    generalize S ++ [gc G] = A at *
    generalize S ++ [gc G2] = B at *
    generalize (10 : Int) ^ 29 = N at *
    simp only [r_sCons, r_sIf, r_tAnd, r_tOr, r_tNot, r_truB, r_truF, r_truD_bl, r_eBin, r_eVar, r_eC, r_eCall, r_eCallK, r_aCons, r_aNil, r_eAnd, r_eOr, r_eNotT, r_eIf, r_eNeg, r_eChain, r_sNil, r_sDrop, r_sRet, r_sSet, r_sAsg, r_sPar, r_nm, r_tp, r_sets, r_sets0, List.getElem?_cons_zero, List.getElem?_cons_succ, List.set_cons_zero, List.set_cons_succ, List.length_cons, List.length_nil, List.map_cons, List.map_nil, List.cons_append, List.nil_append, Nat.zero_add, Nat.reduceAdd, Nat.sub_self, Nat.reduceSub, Nat.add_zero, List.reduceReplicate, List.replicate_zero, List.append_nil, if_true, if_false, Bool.false_eq_true, Bool.not_true, Bool.not_false, Bool.true_and, Bool.and_true, Bool.false_and, Bool.and_false, Bool.or_true, Bool.true_or, Bool.false_or, Bool.or_false, reduceIte, r_fnF, r_sealed, r_start, t_tup0, t_tup1, t_tup2, t_tup3, t_tup4, t_lst0, t_lst1, t_lst2, t_lst3, t_lst4, t_lst5, t_lst6, t_lst7, t_lst8, t_lst9, t_lst10, r_mkV, r_mkR, r_isN, r_non0, r_non1, r_non2, r_non3, r_non4, r_non5, r_non6, isi_int, isi_intb, isi_tup, isi_str, isi_vl, isi_ints, isi_tups, r_cmp2i, r_cmp2t, r_cmpI, r_eqv_int, r_eqv_str, r_add, r_sub, r_arith, r_ix_tup, r_ix_vl, r_len_tup, r_len_vl, r_cInt, r_cMin, r_cMax, r_lof_vl, r_lof_tup, r_tof_vl, r_tof_tup, r_truD_vl, r_truD_tup, r_truD_int, r_truD_non, r_oSome, r_oNone, r_eSl, r_sl_vl, r_sl_tup, r_iAny, r_eMethL, r_isRef_vl, ix20, ix21, nr_int, nr_bl, nr_non, nr_str, nr_tup, nr_vl, nrs_nil, nrs_cons, shut_same, pick_nil, pick_cons, decide_true, decide_false, e1, r1']
  have s4 := lq4_ok hf (S := S ++ [gc G3]) (env := [some d, some (.ref S.length), some (.int n), x3, none, none, none, none, none])
  obtain ⟨x5, s5⟩ := lq5_ok hf (S := S ++ [gc G3]) (a := some d) (b := some (.ref S.length)) (n := n) (d := x3) (f := none) (g := none) (h := none) (i := none)
  have hk : (S ++ [gc G3]).length = S.length + 1 := by simp
  have s6 : lq6 fu [some d, some (.ref S.length), some (.int n), x3, x5, none, none, none, none] (S ++ [gc G3]) = some (.nx [some d, some (.ref S.length), some (.int n), x3, x5, some (.ref (S.length + 1)), none, none, none], (S ++ [gc G3]) ++ [.lst [.int n]]) := by
    rw [← hk]
    rfl
  generalize hA : S ++ [gc G3] = A at *
  have m1 : K04.c__law_made fu [.ref (S.length + 1)] (A ++ [.lst [.int n]]) = some (dMade (.ref (S.length + 1)), A ++ [.lst [.int n]]) := made4_ok (okv_ref (by rw [List.length_append, hk]; simp))
  have s7 : lq7 fu [some d, some (.ref S.length), some (.int n), x3, x5, some (.ref (S.length + 1)), none, none, none] (A ++ [.lst [.int n]]) = some (.nx [some d, some (.ref S.length), some (.int n), x3, x5, some (.ref (S.length + 1)), some (dMade (.ref (S.length + 1))), none, none], A ++ [.lst [.int n]]) := by
    generalize A ++ [Cell.lst [.int n]] = Z at *
    generalize dMade (.ref (S.length + 1)) = M at *
    unfold lq7
    simp only [r_sCons, r_sIf, r_tAnd, r_tOr, r_tNot, r_truB, r_truF, r_truD_bl, r_eBin, r_eVar, r_eC, r_eCall, r_eCallK, r_aCons, r_aNil, r_eAnd, r_eOr, r_eNotT, r_eIf, r_eNeg, r_eChain, r_sNil, r_sDrop, r_sRet, r_sSet, r_sAsg, r_sPar, r_nm, r_tp, r_sets, r_sets0, List.getElem?_cons_zero, List.getElem?_cons_succ, List.set_cons_zero, List.set_cons_succ, List.length_cons, List.length_nil, List.map_cons, List.map_nil, List.cons_append, List.nil_append, Nat.zero_add, Nat.reduceAdd, Nat.sub_self, Nat.reduceSub, Nat.add_zero, List.reduceReplicate, List.replicate_zero, List.append_nil, if_true, if_false, Bool.false_eq_true, Bool.not_true, Bool.not_false, Bool.true_and, Bool.and_true, Bool.false_and, Bool.and_false, Bool.or_true, Bool.true_or, Bool.false_or, Bool.or_false, reduceIte, r_fnF, r_sealed, r_start, t_tup0, t_tup1, t_tup2, t_tup3, t_tup4, t_lst0, t_lst1, t_lst2, t_lst3, t_lst4, t_lst5, t_lst6, t_lst7, t_lst8, t_lst9, t_lst10, r_mkV, r_mkR, r_isN, r_non0, r_non1, r_non2, r_non3, r_non4, r_non5, r_non6, isi_int, isi_intb, isi_tup, isi_str, isi_vl, isi_ints, isi_tups, r_cmp2i, r_cmp2t, r_cmpI, r_eqv_int, r_eqv_str, r_add, r_sub, r_arith, r_ix_tup, r_ix_vl, r_len_tup, r_len_vl, r_cInt, r_cMin, r_cMax, r_lof_vl, r_lof_tup, r_tof_vl, r_tof_tup, r_truD_vl, r_truD_tup, r_truD_int, r_truD_non, r_oSome, r_oNone, r_eSl, r_sl_vl, r_sl_tup, r_iAny, r_eMethL, r_isRef_vl, ix20, ix21, nr_int, nr_bl, nr_non, nr_str, nr_tup, nr_vl, nrs_nil, nrs_cons, shut_same, pick_nil, pick_cons, decide_true, decide_false, m1]
  have hz : (A ++ [Cell.lst [.int n]])[S.length + 1]? = some (.lst [.int n]) := by rw [← hk]; exact new_last
  have s8 : lq8 fu [some d, some (.ref S.length), some (.int n), x3, x5, some (.ref (S.length + 1)), some (dMade (.ref (S.length + 1))), none, none] (A ++ [.lst [.int n]]) = some (.nx [some d, some (.ref S.length), some (.int n), x3, x5, some (.ref (S.length + 1)), some (dMade (.ref (S.length + 1))), none, none], A ++ [.lst [.int n, .int 1]]) := by
    have e1 : mAppend (.ref (S.length + 1)) [.int 1] (A ++ [.lst [.int n]]) = some (.non, A ++ [.lst [.int n, .int 1]]) := by
      rw [show A ++ [Cell.lst [.int n, .int 1]] = (A ++ [Cell.lst [.int n]]).set (S.length + 1) (.lst [.int n, .int 1]) from by rw [← hk]; exact set_last.symm]
      unfold mAppend
      dsimp only
      rw [hz]
      dsimp only
      rw [if_pos (show [D.int n].length < lim from (by decide : 1 < lim))]
      rfl
    have e0 : isRef (A ++ [Cell.lst [.int n]]) (.ref (S.length + 1)) = true := by
      exact decide_eq_true (List.getElem?_eq_some_iff.mp hz).1
    generalize A ++ [Cell.lst [.int n]] = Z at *
    generalize A ++ [Cell.lst [.int n, .int 1]] = Y at *
    generalize dMade (.ref (S.length + 1)) = M at *
    unfold lq8
    simp only [r_sCons, r_sIf, r_tAnd, r_tOr, r_tNot, r_truB, r_truF, r_truD_bl, r_eBin, r_eVar, r_eC, r_eCall, r_eCallK, r_aCons, r_aNil, r_eAnd, r_eOr, r_eNotT, r_eIf, r_eNeg, r_eChain, r_sNil, r_sDrop, r_sRet, r_sSet, r_sAsg, r_sPar, r_nm, r_tp, r_sets, r_sets0, List.getElem?_cons_zero, List.getElem?_cons_succ, List.set_cons_zero, List.set_cons_succ, List.length_cons, List.length_nil, List.map_cons, List.map_nil, List.cons_append, List.nil_append, Nat.zero_add, Nat.reduceAdd, Nat.sub_self, Nat.reduceSub, Nat.add_zero, List.reduceReplicate, List.replicate_zero, List.append_nil, if_true, if_false, Bool.false_eq_true, Bool.not_true, Bool.not_false, Bool.true_and, Bool.and_true, Bool.false_and, Bool.and_false, Bool.or_true, Bool.true_or, Bool.false_or, Bool.or_false, reduceIte, r_fnF, r_sealed, r_start, t_tup0, t_tup1, t_tup2, t_tup3, t_tup4, t_lst0, t_lst1, t_lst2, t_lst3, t_lst4, t_lst5, t_lst6, t_lst7, t_lst8, t_lst9, t_lst10, r_mkV, r_mkR, r_isN, r_non0, r_non1, r_non2, r_non3, r_non4, r_non5, r_non6, isi_int, isi_intb, isi_tup, isi_str, isi_vl, isi_ints, isi_tups, r_cmp2i, r_cmp2t, r_cmpI, r_eqv_int, r_eqv_str, r_add, r_sub, r_arith, r_ix_tup, r_ix_vl, r_len_tup, r_len_vl, r_cInt, r_cMin, r_cMax, r_lof_vl, r_lof_tup, r_tof_vl, r_tof_tup, r_truD_vl, r_truD_tup, r_truD_int, r_truD_non, r_oSome, r_oNone, r_eSl, r_sl_vl, r_sl_tup, r_iAny, r_eMethL, r_isRef_vl, ix20, ix21, nr_int, nr_bl, nr_non, nr_str, nr_tup, nr_vl, nrs_nil, nrs_cons, shut_same, pick_nil, pick_cons, decide_true, decide_false, e1, e0]
  have hy : (A ++ [Cell.lst [.int n, .int 1]])[S.length + 1]? = some (.lst [.int n, .int 1]) := by rw [← hk]; exact new_last
  have s9 := lq9_ok hf (a := some d) (b := some (.ref S.length)) (d := x3) (e := x5) (f := some (.ref (S.length + 1))) (h := none) (i := none) hy
  obtain ⟨x, y, s10⟩ := lq10_ok hf (S := A ++ [.lst [.int n, .int 1]]) (a := some d) (b := some (.ref S.length)) (c := some (.int n)) (d := x3) (e := x5) (f := some (.ref (S.length + 1))) (g := some (dMade (.ref (S.length + 1)))) (h := none)
  have hu : u_law fu [d] S = some (.bl true, A ++ [.lst [.int n, .int 1]]) := by
    unfold u_law
    refine fn_eq (np := 1) rfl ?_
    show b_law fu [some d, none, none, none, none, none, none, none, none] S = _
    rw [b_law_is]
    unfold lqt1
    rw [cons_eq s1]
    unfold lqt2
    rw [cons_eq s2]
    unfold lqt3
    rw [cons_eq s3]
    unfold lqt4
    rw [cons_eq s4]
    unfold lqt5
    rw [cons_eq s5]
    unfold lqt6
    rw [cons_eq s6]
    unfold lqt7
    rw [cons_eq s7]
    unfold lqt8
    rw [cons_eq s8]
    unfold lqt9
    rw [cons_eq s9]
    unfold lqt10
    rw [cons_eq s10]
    unfold lqt11
    rfl
  rw [← hA, List.append_assoc] at hu
  refine ⟨S, ?_⟩
  unfold c_law
  rw [r_sealed, hu]
  exact shut_app nr_bl
end
end Sp
namespace K04
open PySem PySem.Spec PyProof.Rows L2 Lv Com Sp
theorem scr0 (ns : List Int) (d : D) (S : Sto) (h : listOf S d = some (ns.map D.int)) : ∃ S', c_law 10000 [d] S = some (.bl true, S') := law4_ok (Nat.le_refl _) h
theorem scr (ns : List Int) (_ : ns.length ≤ 63) : ScrT kkTABS (c_law 10000) ns := ⟨scr0 ns _ _ rfl, scr0 ns _ _ rfl⟩
end K04
open PySem PySem.W PyProof.Rows
set_option maxRecDepth 100000 in
set_option maxHeartbeats 0 in
theorem PySem.Challenge.cw_stillranges_k04_errors_by_their_classes_holds : PySem.Challenge.rw_stillranges_k04_errors_by_their_classes.Holds :=
  K04hd (by
  k_fill
  refine Lv.end_gT (l := PySem.Challenge.rw_stillranges_k04_errors_by_their_classes) (n := 63) (k := 4) (x := "script") (g := K04.c_law 10000) (T := K04.kkTABS) rfl (by decide) rfl ⟨rfl, by decide, by decide⟩ (fun w h Y => PySem.W.kIn_of Y) ?F K04.scr
  case F =>
    intro w mg fa h tops KX G hmg
    refine' K04.all_mk KX G hmg ?a0 ?l0 ?c0 ?k0 ?a1 ?l1 ?c1 ?k1 ?a2 ?l2 ?c2 ?k2 ?a3 ?l3 ?c3 ?k3 ?a4 ?l4 ?c4 ?k4 ?a5 ?l5 ?c5 ?k5 ?a6 ?l6 ?c6 ?k6 ?a7 ?l7 ?c7 ?k7 ?a8 ?l8 ?c8 ?k8 ?a9 ?l9 ?c9 ?k9 ?z_ValueError ?z_enumerate ?z_int ?z_isinstance ?z_len ?z_max ?z_range ?z_repr ?z_sum ?ca0 ?ch0 ?ce0 ?cy0 ?cn0 ?cg0 ?cG0 ?cc0 ?cm0 ?cv0 ?ck0 ?cE0 ?cq0 ?ca1 ?ch1 ?ce1 ?cy1 ?cn1 ?cg1 ?cG1 ?cc1 ?cm1 ?cv1 ?cl1 ?co1 ?cs1 ?ck1 ?cE1 ?cS1 ?ii1 ?iy1 ?il1 ?ic1 ?ik1 ?iT1 ?iD1 ?ca2 ?ch2 ?ce2 ?cy2 ?cn2 ?cg2 ?cG2 ?cc2 ?cm2 ?cv2 ?cl2 ?co2 ?cs2 ?ck2 ?cE2 ?cS2 ?ii2 ?iy2 ?il2 ?ic2 ?ik2 ?iT2 ?iD2 ?ca3 ?ch3 ?ce3 ?cy3 ?cn3 ?cg3 ?cG3 ?cc3 ?cm3 ?cv3 ?cl3 ?co3 ?cs3 ?ck3 ?cE3 ?cS3 ?ii3 ?iy3 ?il3 ?ic3 ?ik3 ?iT3 ?iD3 ?ca4 ?ch4 ?ce4 ?cy4 ?cn4 ?cg4 ?cG4 ?cc4 ?cm4 ?cv4 ?cl4 ?co4 ?cs4 ?ck4 ?cE4 ?cS4 ?ii4 ?iy4 ?il4 ?ic4 ?ik4 ?iT4 ?iD4 ?ca5 ?ch5 ?ce5 ?cy5 ?cn5 ?cg5 ?cG5 ?cc5 ?cm5 ?cv5 ?cl5 ?co5 ?cs5 ?ck5 ?cE5 ?cS5 ?ii5 ?iy5 ?il5 ?ic5 ?ik5 ?iT5 ?iD5 ?ca6 ?ch6 ?ce6 ?cy6 ?cn6 ?cg6 ?cG6 ?cc6 ?cm6 ?cv6 ?cl6 ?co6 ?cs6 ?ck6 ?cE6 ?cS6 ?ii6 ?iy6 ?il6 ?ic6 ?ik6 ?iT6 ?iD6 ?ca7 ?ch7 ?ce7 ?cy7 ?cn7 ?cg7 ?cG7 ?cc7 ?cm7 ?cv7 ?cl7 ?co7 ?cs7 ?ck7 ?cE7 ?cS7 ?ii7 ?iy7 ?il7 ?ic7 ?ik7 ?iT7 ?iD7 ?ca8 ?ch8 ?ce8 ?cy8 ?cn8 ?cg8 ?cG8 ?cc8 ?cm8 ?cv8 ?cl8 ?co8 ?cs8 ?ck8 ?cE8 ?cS8 ?ii8 ?iy8 ?il8 ?ic8 ?ik8 ?iT8 ?iD8 ?ca9 ?ch9 ?ce9 ?cy9 ?cn9 ?cg9 ?cG9 ?cc9 ?cm9 ?cv9 ?cl9 ?co9 ?cs9 ?ck9 ?cE9 ?cS9 ?ii9 ?iy9 ?il9 ?ic9 ?ik9 ?iT9 ?iD9 ?ca10 ?ch10 ?ce10 ?cy10 ?cn10 ?cg10 ?cG10 ?cc10 ?cm10 ?cv10 ?cl10 ?co10 ?cs10 ?ck10 ?cE10 ?cS10 ?ii10 ?iy10 ?il10 ?ic10 ?ik10 ?iT10 ?iD10 ?ca11 ?ch11 ?ce11 ?cy11 ?cn11 ?cg11 ?cG11 ?cc11 ?cm11 ?cv11 ?cl11 ?co11 ?cs11 ?ck11 ?cE11 ?cS11 ?ii11 ?iy11 ?il11 ?ic11 ?ik11 ?iT11 ?iD11 ?ca12 ?ch12 ?ce12 ?cy12 ?cn12 ?cg12 ?cG12 ?cc12 ?cm12 ?cv12 ?cl12 ?co12 ?cs12 ?ck12 ?cE12 ?cS12 ?ii12 ?iy12 ?il12 ?ic12 ?ik12 ?iT12 ?iD12 ?ca13 ?ch13 ?ce13 ?cy13 ?cn13 ?cg13 ?cG13 ?cc13 ?cm13 ?cv13 ?cl13 ?co13 ?cs13 ?ck13 ?cE13 ?cS13 ?ii13 ?iy13 ?il13 ?ic13 ?ik13 ?iT13 ?iD13 ?ca14 ?ch14 ?ce14 ?cy14 ?cn14 ?cg14 ?cG14 ?cc14 ?cm14 ?cv14 ?cl14 ?co14 ?cs14 ?ck14 ?cE14 ?cS14 ?ii14 ?iy14 ?il14 ?ic14 ?ik14 ?iT14 ?iD14 ?ca15 ?ch15 ?ce15 ?cy15 ?cn15 ?cg15 ?cG15 ?cc15 ?cm15 ?cv15 ?cl15 ?co15 ?cs15 ?ck15 ?cE15 ?cS15 ?ii15 ?iy15 ?il15 ?ic15 ?ik15 ?iT15 ?iD15 ?ca16 ?ch16 ?ce16 ?cy16 ?cn16 ?cg16 ?cG16 ?cc16 ?cm16 ?cv16 ?cl16 ?co16 ?cs16 ?ck16 ?cE16 ?cS16 ?ii16 ?iy16 ?il16 ?ic16 ?ik16 ?iT16 ?iD16 ?ca17 ?ch17 ?ce17 ?cy17 ?cn17 ?cg17 ?cG17 ?cc17 ?cm17 ?cv17 ?cl17 ?co17 ?cs17 ?ck17 ?cE17 ?cS17 ?ii17 ?iy17 ?il17 ?ic17 ?ik17 ?iT17 ?iD17 ?ca18 ?ch18 ?ce18 ?cy18 ?cn18 ?cg18 ?cG18 ?cc18 ?cm18 ?cv18 ?cl18 ?co18 ?cs18 ?ck18 ?cE18 ?cS18 ?ii18 ?iy18 ?il18 ?ic18 ?ik18 ?iT18 ?iD18 ?ca19 ?ch19 ?ce19 ?cy19 ?cn19 ?cg19 ?cG19 ?cc19 ?cm19 ?cv19 ?cl19 ?co19 ?cs19 ?ck19 ?cE19 ?cS19 ?ii19 ?iy19 ?il19 ?ic19 ?ik19 ?iT19 ?iD19 ?ca20 ?ch20 ?ce20 ?cy20 ?cn20 ?cg20 ?cG20 ?cc20 ?cm20 ?cv20 ?cl20 ?co20 ?cs20 ?ck20 ?cE20 ?cS20 ?ii20 ?iy20 ?il20 ?ic20 ?ik20 ?iT20 ?iD20 ?ca21 ?ch21 ?ce21 ?cy21 ?cn21 ?cg21 ?cG21 ?cc21 ?cm21 ?cv21 ?cl21 ?co21 ?cs21 ?ck21 ?cE21 ?cS21 ?ii21 ?iy21 ?il21 ?ic21 ?ik21 ?iT21 ?iD21 ?ca22 ?ch22 ?ce22 ?cy22 ?cn22 ?cg22 ?cG22 ?cc22 ?cm22 ?cv22 ?cl22 ?co22 ?cs22 ?ck22 ?cE22 ?cS22 ?ii22 ?iy22 ?il22 ?ic22 ?ik22 ?iT22 ?iD22 ?ca23 ?ch23 ?ce23 ?cy23 ?cn23 ?cg23 ?cG23 ?cc23 ?cm23 ?cv23 ?ck23 ?cE23 ?cq23 ?ca24 ?ch24 ?ce24 ?cy24 ?cn24 ?cg24 ?cG24 ?cc24 ?cm24 ?cv24 ?ck24 ?cE24 ?cq24 ?sS ?sp ?tk
    (case a0 => k_is)
    (case l0 => k_is)
    (case c0 => k_is)
    (case k0 => k_is)
    (case a1 => k_is)
    (case l1 => k_is)
    (case c1 => k_is)
    (case k1 => k_is)
    (case a2 => k_is)
    (case l2 => k_is)
    (case c2 => k_is)
    (case k2 => k_is)
    (case a3 => k_is)
    (case l3 => k_is)
    (case c3 => k_is)
    (case k3 => k_is)
    (case a4 => k_is)
    (case l4 => k_is)
    (case c4 => k_is)
    (case k4 => k_is)
    (case a5 => k_is)
    (case l5 => k_is)
    (case c5 => k_is)
    (case k5 => k_is)
    (case a6 => k_is)
    (case l6 => k_is)
    (case c6 => k_is)
    (case k6 => k_is)
    (case a7 => k_is)
    (case l7 => k_is)
    (case c7 => k_is)
    (case k7 => k_is)
    (case a8 => k_is)
    (case l8 => k_is)
    (case c8 => k_is)
    (case k8 => k_is)
    (case a9 => k_is)
    (case l9 => k_is)
    (case c9 => k_is)
    (case k9 => k_is)
    (case z_ValueError => k_is)
    (case z_enumerate => k_is)
    (case z_int => k_is)
    (case z_isinstance => k_is)
    (case z_len => k_is)
    (case z_max => k_is)
    (case z_range => k_is)
    (case z_repr => k_is)
    (case z_sum => k_is)
    (case ca0 => k_is)
    (case ch0 => k_is)
    (case ce0 => k_is)
    (case cy0 => k_is)
    (case cn0 => k_is)
    (case cg0 => k_is)
    (case cG0 => k_is)
    (case cc0 => k_is)
    (case cm0 => k_is)
    (case cv0 => k_is)
    (case ck0 => k_is)
    (case cE0 => k_is)
    (case cq0 => k_exc)
    (case ca1 => k_is)
    (case ch1 => k_is)
    (case ce1 => k_is)
    (case cy1 => k_is)
    (case cn1 => k_is)
    (case cg1 => k_is)
    (case cG1 => k_is)
    (case cc1 => k_is)
    (case cm1 => k_is)
    (case cv1 => k_is)
    (case cl1 => k_is)
    (case co1 => exact ⟨_, _, _, _, _, _, _, _, _, _, _, _, _, _, _, rfl, rfl⟩)
    (case cs1 => k_is)
    (case ck1 => k_is)
    (case cE1 => k_is)
    (case cS1 => k_is)
    (case ii1 => k_is)
    (case iy1 => k_is)
    (case il1 => k_is)
    (case ic1 => k_is)
    (case ik1 => k_is)
    (case iT1 => k_is)
    (case iD1 => rfl)
    (case ca2 => k_is)
    (case ch2 => k_is)
    (case ce2 => k_is)
    (case cy2 => k_is)
    (case cn2 => k_is)
    (case cg2 => k_is)
    (case cG2 => k_is)
    (case cc2 => k_is)
    (case cm2 => k_is)
    (case cv2 => k_is)
    (case cl2 => k_is)
    (case co2 => exact ⟨_, _, _, _, _, _, _, _, _, _, _, _, _, _, _, rfl, rfl⟩)
    (case cs2 => k_is)
    (case ck2 => k_is)
    (case cE2 => k_is)
    (case cS2 => k_is)
    (case ii2 => k_is)
    (case iy2 => k_is)
    (case il2 => k_is)
    (case ic2 => k_is)
    (case ik2 => k_is)
    (case iT2 => k_is)
    (case iD2 => rfl)
    (case ca3 => k_is)
    (case ch3 => k_is)
    (case ce3 => k_is)
    (case cy3 => k_is)
    (case cn3 => k_is)
    (case cg3 => k_is)
    (case cG3 => k_is)
    (case cc3 => k_is)
    (case cm3 => k_is)
    (case cv3 => k_is)
    (case cl3 => k_is)
    (case co3 => exact ⟨_, _, _, _, _, _, _, _, _, _, _, _, _, _, _, rfl, rfl⟩)
    (case cs3 => k_is)
    (case ck3 => k_is)
    (case cE3 => k_is)
    (case cS3 => k_is)
    (case ii3 => k_is)
    (case iy3 => k_is)
    (case il3 => k_is)
    (case ic3 => k_is)
    (case ik3 => k_is)
    (case iT3 => k_is)
    (case iD3 => rfl)
    (case ca4 => k_is)
    (case ch4 => k_is)
    (case ce4 => k_is)
    (case cy4 => k_is)
    (case cn4 => k_is)
    (case cg4 => k_is)
    (case cG4 => k_is)
    (case cc4 => k_is)
    (case cm4 => k_is)
    (case cv4 => k_is)
    (case cl4 => k_is)
    (case co4 => exact ⟨_, _, _, _, _, _, _, _, _, _, _, _, _, _, _, rfl, rfl⟩)
    (case cs4 => k_is)
    (case ck4 => k_is)
    (case cE4 => k_is)
    (case cS4 => k_is)
    (case ii4 => k_is)
    (case iy4 => k_is)
    (case il4 => k_is)
    (case ic4 => k_is)
    (case ik4 => k_is)
    (case iT4 => k_is)
    (case iD4 => rfl)
    (case ca5 => k_is)
    (case ch5 => k_is)
    (case ce5 => k_is)
    (case cy5 => k_is)
    (case cn5 => k_is)
    (case cg5 => k_is)
    (case cG5 => k_is)
    (case cc5 => k_is)
    (case cm5 => k_is)
    (case cv5 => k_is)
    (case cl5 => k_is)
    (case co5 => exact ⟨_, _, _, _, _, _, _, _, _, _, _, _, _, _, _, rfl, rfl⟩)
    (case cs5 => k_is)
    (case ck5 => k_is)
    (case cE5 => k_is)
    (case cS5 => k_is)
    (case ii5 => k_is)
    (case iy5 => k_is)
    (case il5 => k_is)
    (case ic5 => k_is)
    (case ik5 => k_is)
    (case iT5 => k_is)
    (case iD5 => rfl)
    (case ca6 => k_is)
    (case ch6 => k_is)
    (case ce6 => k_is)
    (case cy6 => k_is)
    (case cn6 => k_is)
    (case cg6 => k_is)
    (case cG6 => k_is)
    (case cc6 => k_is)
    (case cm6 => k_is)
    (case cv6 => k_is)
    (case cl6 => k_is)
    (case co6 => exact ⟨_, _, _, _, _, _, _, _, _, _, _, _, _, _, _, rfl, rfl⟩)
    (case cs6 => k_is)
    (case ck6 => k_is)
    (case cE6 => k_is)
    (case cS6 => k_is)
    (case ii6 => k_is)
    (case iy6 => k_is)
    (case il6 => k_is)
    (case ic6 => k_is)
    (case ik6 => k_is)
    (case iT6 => k_is)
    (case iD6 => rfl)
    (case ca7 => k_is)
    (case ch7 => k_is)
    (case ce7 => k_is)
    (case cy7 => k_is)
    (case cn7 => k_is)
    (case cg7 => k_is)
    (case cG7 => k_is)
    (case cc7 => k_is)
    (case cm7 => k_is)
    (case cv7 => k_is)
    (case cl7 => k_is)
    (case co7 => exact ⟨_, _, _, _, _, _, _, _, _, _, _, _, _, _, _, rfl, rfl⟩)
    (case cs7 => k_is)
    (case ck7 => k_is)
    (case cE7 => k_is)
    (case cS7 => k_is)
    (case ii7 => k_is)
    (case iy7 => k_is)
    (case il7 => k_is)
    (case ic7 => k_is)
    (case ik7 => k_is)
    (case iT7 => k_is)
    (case iD7 => rfl)
    (case ca8 => k_is)
    (case ch8 => k_is)
    (case ce8 => k_is)
    (case cy8 => k_is)
    (case cn8 => k_is)
    (case cg8 => k_is)
    (case cG8 => k_is)
    (case cc8 => k_is)
    (case cm8 => k_is)
    (case cv8 => k_is)
    (case cl8 => k_is)
    (case co8 => exact ⟨_, _, _, _, _, _, _, _, _, _, _, _, _, _, _, rfl, rfl⟩)
    (case cs8 => k_is)
    (case ck8 => k_is)
    (case cE8 => k_is)
    (case cS8 => k_is)
    (case ii8 => k_is)
    (case iy8 => k_is)
    (case il8 => k_is)
    (case ic8 => k_is)
    (case ik8 => k_is)
    (case iT8 => k_is)
    (case iD8 => rfl)
    (case ca9 => k_is)
    (case ch9 => k_is)
    (case ce9 => k_is)
    (case cy9 => k_is)
    (case cn9 => k_is)
    (case cg9 => k_is)
    (case cG9 => k_is)
    (case cc9 => k_is)
    (case cm9 => k_is)
    (case cv9 => k_is)
    (case cl9 => k_is)
    (case co9 => exact ⟨_, _, _, _, _, _, _, _, _, _, _, _, _, _, _, rfl, rfl⟩)
    (case cs9 => k_is)
    (case ck9 => k_is)
    (case cE9 => k_is)
    (case cS9 => k_is)
    (case ii9 => k_is)
    (case iy9 => k_is)
    (case il9 => k_is)
    (case ic9 => k_is)
    (case ik9 => k_is)
    (case iT9 => k_is)
    (case iD9 => rfl)
    (case ca10 => k_is)
    (case ch10 => k_is)
    (case ce10 => k_is)
    (case cy10 => k_is)
    (case cn10 => k_is)
    (case cg10 => k_is)
    (case cG10 => k_is)
    (case cc10 => k_is)
    (case cm10 => k_is)
    (case cv10 => k_is)
    (case cl10 => k_is)
    (case co10 => exact ⟨_, _, _, _, _, _, _, _, _, _, _, _, _, _, _, rfl, rfl⟩)
    (case cs10 => k_is)
    (case ck10 => k_is)
    (case cE10 => k_is)
    (case cS10 => k_is)
    (case ii10 => k_is)
    (case iy10 => k_is)
    (case il10 => k_is)
    (case ic10 => k_is)
    (case ik10 => k_is)
    (case iT10 => k_is)
    (case iD10 => rfl)
    (case ca11 => k_is)
    (case ch11 => k_is)
    (case ce11 => k_is)
    (case cy11 => k_is)
    (case cn11 => k_is)
    (case cg11 => k_is)
    (case cG11 => k_is)
    (case cc11 => k_is)
    (case cm11 => k_is)
    (case cv11 => k_is)
    (case cl11 => k_is)
    (case co11 => exact ⟨_, _, _, _, _, _, _, _, _, _, _, _, _, _, _, rfl, rfl⟩)
    (case cs11 => k_is)
    (case ck11 => k_is)
    (case cE11 => k_is)
    (case cS11 => k_is)
    (case ii11 => k_is)
    (case iy11 => k_is)
    (case il11 => k_is)
    (case ic11 => k_is)
    (case ik11 => k_is)
    (case iT11 => k_is)
    (case iD11 => rfl)
    (case ca12 => k_is)
    (case ch12 => k_is)
    (case ce12 => k_is)
    (case cy12 => k_is)
    (case cn12 => k_is)
    (case cg12 => k_is)
    (case cG12 => k_is)
    (case cc12 => k_is)
    (case cm12 => k_is)
    (case cv12 => k_is)
    (case cl12 => k_is)
    (case co12 => exact ⟨_, _, _, _, _, _, _, _, _, _, _, _, _, _, _, rfl, rfl⟩)
    (case cs12 => k_is)
    (case ck12 => k_is)
    (case cE12 => k_is)
    (case cS12 => k_is)
    (case ii12 => k_is)
    (case iy12 => k_is)
    (case il12 => k_is)
    (case ic12 => k_is)
    (case ik12 => k_is)
    (case iT12 => k_is)
    (case iD12 => rfl)
    (case ca13 => k_is)
    (case ch13 => k_is)
    (case ce13 => k_is)
    (case cy13 => k_is)
    (case cn13 => k_is)
    (case cg13 => k_is)
    (case cG13 => k_is)
    (case cc13 => k_is)
    (case cm13 => k_is)
    (case cv13 => k_is)
    (case cl13 => k_is)
    (case co13 => exact ⟨_, _, _, _, _, _, _, _, _, _, _, _, _, _, _, rfl, rfl⟩)
    (case cs13 => k_is)
    (case ck13 => k_is)
    (case cE13 => k_is)
    (case cS13 => k_is)
    (case ii13 => k_is)
    (case iy13 => k_is)
    (case il13 => k_is)
    (case ic13 => k_is)
    (case ik13 => k_is)
    (case iT13 => k_is)
    (case iD13 => rfl)
    (case ca14 => k_is)
    (case ch14 => k_is)
    (case ce14 => k_is)
    (case cy14 => k_is)
    (case cn14 => k_is)
    (case cg14 => k_is)
    (case cG14 => k_is)
    (case cc14 => k_is)
    (case cm14 => k_is)
    (case cv14 => k_is)
    (case cl14 => k_is)
    (case co14 => exact ⟨_, _, _, _, _, _, _, _, _, _, _, _, _, _, _, rfl, rfl⟩)
    (case cs14 => k_is)
    (case ck14 => k_is)
    (case cE14 => k_is)
    (case cS14 => k_is)
    (case ii14 => k_is)
    (case iy14 => k_is)
    (case il14 => k_is)
    (case ic14 => k_is)
    (case ik14 => k_is)
    (case iT14 => k_is)
    (case iD14 => rfl)
    (case ca15 => k_is)
    (case ch15 => k_is)
    (case ce15 => k_is)
    (case cy15 => k_is)
    (case cn15 => k_is)
    (case cg15 => k_is)
    (case cG15 => k_is)
    (case cc15 => k_is)
    (case cm15 => k_is)
    (case cv15 => k_is)
    (case cl15 => k_is)
    (case co15 => exact ⟨_, _, _, _, _, _, _, _, _, _, _, _, _, _, _, rfl, rfl⟩)
    (case cs15 => k_is)
    (case ck15 => k_is)
    (case cE15 => k_is)
    (case cS15 => k_is)
    (case ii15 => k_is)
    (case iy15 => k_is)
    (case il15 => k_is)
    (case ic15 => k_is)
    (case ik15 => k_is)
    (case iT15 => k_is)
    (case iD15 => rfl)
    (case ca16 => k_is)
    (case ch16 => k_is)
    (case ce16 => k_is)
    (case cy16 => k_is)
    (case cn16 => k_is)
    (case cg16 => k_is)
    (case cG16 => k_is)
    (case cc16 => k_is)
    (case cm16 => k_is)
    (case cv16 => k_is)
    (case cl16 => k_is)
    (case co16 => exact ⟨_, _, _, _, _, _, _, _, _, _, _, _, _, _, _, rfl, rfl⟩)
    (case cs16 => k_is)
    (case ck16 => k_is)
    (case cE16 => k_is)
    (case cS16 => k_is)
    (case ii16 => k_is)
    (case iy16 => k_is)
    (case il16 => k_is)
    (case ic16 => k_is)
    (case ik16 => k_is)
    (case iT16 => k_is)
    (case iD16 => rfl)
    (case ca17 => k_is)
    (case ch17 => k_is)
    (case ce17 => k_is)
    (case cy17 => k_is)
    (case cn17 => k_is)
    (case cg17 => k_is)
    (case cG17 => k_is)
    (case cc17 => k_is)
    (case cm17 => k_is)
    (case cv17 => k_is)
    (case cl17 => k_is)
    (case co17 => exact ⟨_, _, _, _, _, _, _, _, _, _, _, _, _, _, _, rfl, rfl⟩)
    (case cs17 => k_is)
    (case ck17 => k_is)
    (case cE17 => k_is)
    (case cS17 => k_is)
    (case ii17 => k_is)
    (case iy17 => k_is)
    (case il17 => k_is)
    (case ic17 => k_is)
    (case ik17 => k_is)
    (case iT17 => k_is)
    (case iD17 => rfl)
    (case ca18 => k_is)
    (case ch18 => k_is)
    (case ce18 => k_is)
    (case cy18 => k_is)
    (case cn18 => k_is)
    (case cg18 => k_is)
    (case cG18 => k_is)
    (case cc18 => k_is)
    (case cm18 => k_is)
    (case cv18 => k_is)
    (case cl18 => k_is)
    (case co18 => exact ⟨_, _, _, _, _, _, _, _, _, _, _, _, _, _, _, rfl, rfl⟩)
    (case cs18 => k_is)
    (case ck18 => k_is)
    (case cE18 => k_is)
    (case cS18 => k_is)
    (case ii18 => k_is)
    (case iy18 => k_is)
    (case il18 => k_is)
    (case ic18 => k_is)
    (case ik18 => k_is)
    (case iT18 => k_is)
    (case iD18 => rfl)
    (case ca19 => k_is)
    (case ch19 => k_is)
    (case ce19 => k_is)
    (case cy19 => k_is)
    (case cn19 => k_is)
    (case cg19 => k_is)
    (case cG19 => k_is)
    (case cc19 => k_is)
    (case cm19 => k_is)
    (case cv19 => k_is)
    (case cl19 => k_is)
    (case co19 => exact ⟨_, _, _, _, _, _, _, _, _, _, _, _, _, _, _, rfl, rfl⟩)
    (case cs19 => k_is)
    (case ck19 => k_is)
    (case cE19 => k_is)
    (case cS19 => k_is)
    (case ii19 => k_is)
    (case iy19 => k_is)
    (case il19 => k_is)
    (case ic19 => k_is)
    (case ik19 => k_is)
    (case iT19 => k_is)
    (case iD19 => rfl)
    (case ca20 => k_is)
    (case ch20 => k_is)
    (case ce20 => k_is)
    (case cy20 => k_is)
    (case cn20 => k_is)
    (case cg20 => k_is)
    (case cG20 => k_is)
    (case cc20 => k_is)
    (case cm20 => k_is)
    (case cv20 => k_is)
    (case cl20 => k_is)
    (case co20 => exact ⟨_, _, _, _, _, _, _, _, _, _, _, _, _, _, _, rfl, rfl⟩)
    (case cs20 => k_is)
    (case ck20 => k_is)
    (case cE20 => k_is)
    (case cS20 => k_is)
    (case ii20 => k_is)
    (case iy20 => k_is)
    (case il20 => k_is)
    (case ic20 => k_is)
    (case ik20 => k_is)
    (case iT20 => k_is)
    (case iD20 => rfl)
    (case ca21 => k_is)
    (case ch21 => k_is)
    (case ce21 => k_is)
    (case cy21 => k_is)
    (case cn21 => k_is)
    (case cg21 => k_is)
    (case cG21 => k_is)
    (case cc21 => k_is)
    (case cm21 => k_is)
    (case cv21 => k_is)
    (case cl21 => k_is)
    (case co21 => exact ⟨_, _, _, _, _, _, _, _, _, _, _, _, _, _, _, rfl, rfl⟩)
    (case cs21 => k_is)
    (case ck21 => k_is)
    (case cE21 => k_is)
    (case cS21 => k_is)
    (case ii21 => k_is)
    (case iy21 => k_is)
    (case il21 => k_is)
    (case ic21 => k_is)
    (case ik21 => k_is)
    (case iT21 => k_is)
    (case iD21 => rfl)
    (case ca22 => k_is)
    (case ch22 => k_is)
    (case ce22 => k_is)
    (case cy22 => k_is)
    (case cn22 => k_is)
    (case cg22 => k_is)
    (case cG22 => k_is)
    (case cc22 => k_is)
    (case cm22 => k_is)
    (case cv22 => k_is)
    (case cl22 => k_is)
    (case co22 => exact ⟨_, _, _, _, _, _, _, _, _, _, _, _, _, _, _, rfl, rfl⟩)
    (case cs22 => k_is)
    (case ck22 => k_is)
    (case cE22 => k_is)
    (case cS22 => k_is)
    (case ii22 => k_is)
    (case iy22 => k_is)
    (case il22 => k_is)
    (case ic22 => k_is)
    (case ik22 => k_is)
    (case iT22 => k_is)
    (case iD22 => rfl)
    (case ca23 => k_is)
    (case ch23 => k_is)
    (case ce23 => k_is)
    (case cy23 => k_is)
    (case cn23 => k_is)
    (case cg23 => k_is)
    (case cG23 => k_is)
    (case cc23 => k_is)
    (case cm23 => k_is)
    (case cv23 => k_is)
    (case ck23 => k_is)
    (case cE23 => k_is)
    (case cq23 => k_exc)
    (case ca24 => k_is)
    (case ch24 => k_is)
    (case ce24 => k_is)
    (case cy24 => k_is)
    (case cn24 => k_is)
    (case cg24 => k_is)
    (case cG24 => k_is)
    (case cc24 => k_is)
    (case cm24 => k_is)
    (case cv24 => k_is)
    (case ck24 => k_is)
    (case cE24 => k_is)
    (case cq24 => k_exc)
    (case sS => kernel_rfl)
    (case sp => k_is)
    (case tk => k_is))
